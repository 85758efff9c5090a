"""Reaches: the tables of a house that come of its top by ups with the indexes of a row."""

from liftwords.errors import OtherHouse, TooGreat
from liftwords.houses import MOST_TABLES, padded
from liftwords.mirrors import check_indexes, exchange, growth_of
from liftwords.tables import Table, cut
from liftwords.words import bracketed


def end_counts(house, row):
    """The counts of the far end: the numbers of the shape in the order that the row makes of them."""
    held = list(padded(house.shape, house.size))
    for i in row:
        if held[i - 1] > held[i]:
            exchange(held, i)
    return tuple(held)


def descent(letters, row):
    """Go down as often as it can be done at each index, the last one first: letters, and how many downs there were."""
    held = list(letters)
    numbers = []
    for i in row[::-1]:
        highs = bracketed(held, i)[2]
        for place in highs:
            held[place] = i
        numbers.append(len(highs))
    return held, tuple(numbers[::-1])


def climb(letters, i):
    """What comes of letters by up at an index, once, twice, and as often as it can be done, if down cannot be done."""
    pairs, lows, highs = bracketed(letters, i)
    steps = []
    if not highs:
        for place in lows[::-1]:
            letters = letters[:place] + (i + 1,) + letters[place + 1:]
            steps.append(letters)
    return steps


def reached_letters(house, row):
    """The letters of the readings of all tables of a reach, in no order that counts."""
    found = {house.top().reading().letters: True}
    for i in row:
        # By [52] what has to be reached now comes of tables that are there and have no down at this index.
        for letters in list(found):
            for step in climb(letters, i):
                found[step] = True
    return list(found)


def in_order(size, tables):
    """Rows of tables of one house in the order of the house."""
    # A shadow is less than another one if the first row in which they differ has more of the next letter.
    return sorted(tables, key=lambda rows: [-row.count(letter) for letter in range(size, 1, -1) for row in rows])


def sorted_labels(counts):
    """Which number of the shape stands at each place of some counts; equal numbers keep their order."""
    ranked = sorted([(-number, place) for place, number in enumerate(counts)])
    labels = [0] * len(counts)
    for label, (number, place) in enumerate(ranked):
        labels[place] = label
    return labels


class Reach:
    """The reach of a house and a row of indexes. It never changes."""

    def __init__(self, house, row):
        check_indexes(house.size, row)
        self.house = house
        self.row = tuple(row)
        # In one house the reach hangs on these alone.
        self.ends = end_counts(house, self.row)

    def __eq__(self, other):
        return isinstance(other, Reach) and self.house == other.house and self.ends == other.ends

    def far_end(self):
        """The table that comes of the top if each up is done as often as it can be done."""
        # Only one table of the house has these counts: the letters that occur often enough make its columns.
        columns = [[letter for letter, many in enumerate(self.ends, start=1) if many > number]
                   for number in range(max(self.ends))]
        rows = [[column[number] for column in columns if len(column) > number]
                for number in range(len(self.house.shape))]
        return Table(self.house.size, rows)

    def descended(self, table):
        """The letters to which the downs lead from a table, and how many downs there are at each index of the row."""
        if table not in self.house:
            raise OtherHouse()
        return descent(table.reading().letters, self.row)

    def has(self, value):
        """Whether any value is a table of the reach."""
        return value in self.house and self.path(value) is not None

    def path(self, table):
        """By how many ups at each index of the row the top leads to a table, or None if it is not in the reach."""
        letters, numbers = self.descended(table)
        return numbers if tuple(letters) == self.house.top().reading().letters else None

    def rest(self, table):
        """The table to which the downs lead."""
        return Table(self.house.size, cut(self.descended(table)[0], self.house.shape))

    def members(self):
        """The letters of the readings of all its tables, if the house can be listed."""
        if self.house.count() > MOST_TABLES:
            raise TooGreat(MOST_TABLES)
        return reached_letters(self.house, self.least_row())

    def count(self):
        """The number of its tables."""
        return len(self.members())

    def each(self):
        """Go through its tables in the order of the house."""
        tables = [cut(letters, self.house.shape) for letters in self.members()]
        for rows in in_order(self.house.size, tables):
            yield Table(self.house.size, rows)

    def least_row(self):
        """Of the shortest rows that have the same reach in this house the least one."""
        goal = sorted_labels(self.ends)
        held = list(range(self.house.size))
        row = []
        while held != goal:
            # Each exchange of a shortest row brings two labels into the order in which they stand in the end.
            i = 1
            while goal.index(held[i - 1]) < goal.index(held[i]):
                i += 1
            exchange(held, i)
            row.append(i)
        return tuple(row)

    def within(self, other):
        """Whether all tables of this reach are in another one of the same house."""
        return self.parted(other) is None

    def parted(self, other):
        """A table that this reach has and another one of the same house has not, or None."""
        if self.house != other.house:
            raise OtherHouse()
        # With its far end the other reach has all tables of this one.
        end = self.far_end()
        return None if other.has(end) else end


def rows_agree(size, one, other):
    """Whether two rows of indexes have the same reach in each house of the size."""
    return parting_shape(size, one, other) is None


def parting_shape(size, one, other):
    """A shape in whose house two rows of indexes have not the same reach, or None."""
    if growth_of(size, one) == growth_of(size, other):
        return None
    return tuple(range(size - 1, 0, -1))
