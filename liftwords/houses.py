"""Houses: all tables of a size and a shape, their order, and how they are joined."""

from liftwords.deeds import steps_from
from liftwords.errors import BadNumber, BadShape, OtherHouse, OtherSize, TooGreat
from liftwords.kinds import is_between, is_listing, is_whole
from liftwords.tables import Table, bumped
from liftwords.words import MOST_LETTERS, check_size

MOST_TABLES = 3000


def is_shape(size, value):
    """Whether a value is a shape of the size."""
    if not is_listing(value) or len(value) > size:
        return False
    most = MOST_LETTERS
    for number in value:
        if not is_between(number, 1, most):
            return False
        most = number
    return sum(value) <= MOST_LETTERS


def check_shape(size, shape):
    """Refuse any value that is no shape of the size."""
    if not is_shape(size, shape):
        raise BadShape(shape)


def padded(numbers, many):
    """Numbers with as many 0 behind them as are missing."""
    return tuple(numbers) + (0,) * (many - len(numbers))


def unpadded(numbers):
    """The numbers without those that are 0."""
    return tuple([number for number in numbers if number > 0])


def ways(shadow):
    """How many tables with letters up to the length of a shadow have these lengths of rows."""
    # The product of [26], without the factors that are above as well as below.
    above = below = 1
    for later in range(len(shadow)):
        for earlier in range(later):
            above *= shadow[earlier] - shadow[later] + later - earlier
            below *= later - earlier
    return above // below


def lower_shadows(shadow):
    """All shadows that a table with a shadow can have at the letter before, ascending."""
    found = [()]
    for most, least in zip(shadow, shadow[1:]):
        found = [head + (number,) for head in found for number in range(least, most + 1)]
    return found


def lower_shadows_of(shadow, total):
    """Those of the lower shadows that have this sum, ascending."""
    if len(shadow) == 1:
        return [()]
    found = []
    for head in lower_shadows(shadow[:-1]):
        number = total - sum(head)
        if shadow[-1] <= number <= shadow[-2]:
            found.append(head + (number,))
    return found


def table_of_shadows(size, shadows):
    """The table with these shadows, from the one at the size down to the one at 1."""
    rows = [()] * size
    before = (0,) * size
    for letter, shadow in enumerate(shadows[::-1], start=1):
        now = padded(shadow, size)
        rows = [row + (letter,) * (many - had) for row, many, had in zip(rows, now, before)]
        before = now
    return Table(size, [row for row in rows if row])


def is_counts(size, value):
    """Whether a value is a list or tuple of as many integers >= 0 as the size says."""
    return is_listing(value) and len(value) == size and all([is_whole(number) and number >= 0 for number in value])


def shortest_row(start, goal):
    """A shortest row of deeds that leads from one word to another one of the same house."""
    # The search begins at the goal, so that what it keeps leads on from each word that it has reached.
    onward = {goal.letters: None}
    reached = [goal.letters]
    while start.letters not in onward:
        further = []
        for letters in reached:
            for deed, after in steps_from(start.size, letters):
                if after not in onward:
                    onward[after] = (-deed, letters)
                    further.append(after)
        reached = further
    row = []
    letters = start.letters
    while letters != goal.letters:
        deed, letters = onward[letters]
        row.append(deed)
    return tuple(row)


def part_at(shadow, number):
    """Of the tables with a shadow, the one with a number: its lower shadow, and its number among those that have it."""
    for lower in lower_shadows(shadow):
        many = ways(lower)
        if number < many:
            break
        number -= many
    return lower, number


def lowered(found, number):
    """Take the greatest letter, that stands a number of times, out of tables that are counted by their shadows."""
    lower = {}
    for shadow in found:
        for under in lower_shadows_of(shadow, sum(shadow) - number):
            lower[under] = lower.get(under, 0) + found[shadow]
    return lower


class House:
    """A house: its size, and its shape as a tuple. It never changes."""

    def __init__(self, size, shape):
        check_size(size)
        check_shape(size, shape)
        self.size = size
        self.shape = tuple(shape)

    def __eq__(self, other):
        return isinstance(other, House) and self.size == other.size and self.shape == other.shape

    def __contains__(self, x):
        return isinstance(x, Table) and self.size == x.size and self.shape == x.shape

    def count(self):
        """How many tables the house has."""
        return ways(padded(self.shape, self.size))

    def top(self):
        """Its table whose reading is a top."""
        return Table(self.size, [[number + 1] * length for number, length in enumerate(self.shape)])

    def bottom(self):
        """Its table whose reading is a bottom: each column has the greatest letters."""
        lengths = padded(self.shape, self.size)
        return table_of_shadows(self.size, [lengths[row:] for row in range(self.size)])

    def number_of(self, table):
        """The number of a table in the order of the house."""
        if table not in self:
            raise OtherHouse()
        number = 0
        above = padded(self.shape, self.size)
        for letter in range(self.size - 1, 0, -1):
            shadow = table.shadow(letter)[:letter]
            number += sum([ways(lower) for lower in lower_shadows(above) if lower < shadow])
            above = shadow
        return number

    def table_at(self, number):
        """The table with a number in the order of the house."""
        if not is_between(number, 0, self.count() - 1):
            raise BadNumber(number)
        shadows = [padded(self.shape, self.size)]
        while len(shadows) < self.size:
            lower, number = part_at(shadows[-1], number)
            shadows.append(lower)
        return table_of_shadows(self.size, shadows)

    def tables(self):
        """Go through all tables of the house in their order."""
        if self.count() > MOST_TABLES:
            raise TooGreat(MOST_TABLES)
        chains = [(padded(self.shape, self.size),)]
        while len(chains[0]) < self.size:
            chains = [chain + (lower,) for chain in chains for lower in lower_shadows(chain[-1])]
        for chain in chains:
            yield table_of_shadows(self.size, chain)

    def how_many(self, counts):
        """How many of its tables have these counts."""
        if not is_counts(self.size, counts):
            raise BadNumber(counts)
        if sum(counts) != sum(self.shape):
            return 0
        found = {padded(self.shape, self.size): 1}
        for letter in range(self.size, 1, -1):
            found = lowered(found, counts[letter - 1])
        return sum(list(found.values()))

    def rank(self, table):
        """How many downs lead from a table to the top."""
        if table not in self:
            raise OtherHouse()
        # Each down makes one letter less by 1.
        return sum(table.reading().letters) - sum(self.top().reading().letters)

    def between(self, start, goal):
        """A shortest row of deeds that leads from one table to another one."""
        if start not in self or goal not in self:
            raise OtherHouse()
        if self.count() > MOST_TABLES:
            raise TooGreat(MOST_TABLES)
        return shortest_row(start.reading(), goal.reading())


def house_of(word):
    """The house of the table of a word."""
    return House(word.size, bumped(word).shape)


def check_joined(house, behind):
    """Refuse two houses that cannot be joined."""
    if house.size != behind.size:
        raise OtherSize()
    if sum(house.shape) + sum(behind.shape) > MOST_LETTERS:
        raise TooGreat(MOST_LETTERS)


def spare_limits(behind):
    """How many i + 1 left over the top of a house takes up behind a word, for each index i from 1 on."""
    lengths = padded(behind.shape, behind.size)
    return [length - lower for length, lower in zip(lengths, lengths[1:])]


def joined_tops(house, behind):
    """By shapes, the tables of a house that with the top of another one behind make a top of this shape."""
    check_joined(house, behind)
    limits = spare_limits(behind)
    lengths = padded(behind.shape, behind.size)
    found = {}
    for table in house.tables():
        reading = table.reading()
        if all([reading.downs(i) <= limit for i, limit in enumerate(limits, start=1)]):
            shape = unpadded([many + more for many, more in zip(reading.counts(), lengths)])
            if shape not in found:
                found[shape] = []
            found[shape].append(table)
    return {shape: tuple(found[shape]) for shape in sorted(found)}


def spare_highs(over, shadow, under):
    """How many i + 1 are left over in a table that has these shadows at i + 1, i and i - 1."""
    # The most i + 1 beyond the i has an end of the reading that begins with the letters i + 1 of a row.
    most = beyond = 0
    for upto_high, upto_low, before in zip(over, shadow + (0,), under + (0, 0)):
        beyond += upto_high - upto_low
        most = max(most, beyond)
        beyond -= upto_low - before
    return most


def lowered_tops(found, number, limit):
    """Like lowered, for pairs of shadows, with at most as many letters left over at the index as the limit says."""
    lower = {}
    for over, shadow in found:
        for under in lower_shadows_of(shadow, sum(shadow) - number):
            if spare_highs(over, shadow, under) <= limit:
                lower[shadow, under] = lower.get((shadow, under), 0) + found[over, shadow]
    return lower


def multiplicity(house, behind, shape):
    """How many tables of a house make with the top of another one behind a top of this shape."""
    check_joined(house, behind)
    check_shape(house.size, shape)
    if sum(house.shape) > sum(behind.shape):
        # [27] allows it, and in a house of fewer letters there is less to count.
        house, behind = behind, house
    size = house.size
    counts = [many - had for many, had in zip(padded(shape, size), padded(behind.shape, size))]
    if min(counts) < 0 or sum(counts) != sum(house.shape):
        return 0
    top = padded(house.shape, size)
    found = {(top, shadow): 1 for shadow in lower_shadows_of(top, sum(top) - counts[-1])}
    for number, limit in list(zip(counts, spare_limits(behind)))[::-1]:
        found = lowered_tops(found, number, limit)
    return sum(list(found.values()))
