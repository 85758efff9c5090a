"""Bags of counts: those of houses and words, their sums, and the houses whose sum a bag is."""

from liftwords.errors import BadCounts, OtherSize, TooGreat
from liftwords.houses import MOST_TABLES, is_counts, lower_shadows, padded, unpadded
from liftwords.kinds import is_whole
from liftwords.words import MOST_LETTERS, check_size

MOST_COUNTS = 500
UNLIKE = "unlike"
BELOW = "below"


def is_key(size, value):
    """Whether a value is counts of the size."""
    return isinstance(value, tuple) and is_counts(size, value) and sum(value) <= MOST_LETTERS


def check_bag(size, bag):
    """Refuse any value that is no bag of the size."""
    if not isinstance(bag, dict) or len(bag) > MOST_COUNTS:
        raise BadCounts(None)
    for key, many in bag.items():
        if not is_key(size, key) or not is_whole(many) or many < 1:
            raise BadCounts(key)


def in_ascending_order(bag):
    """A bag with its counts ascending."""
    return {counts: bag[counts] for counts in sorted(bag)}


def lowered_bags(found):
    """Take the greatest letter out of tables: by shadows, bags of how often they have the letters that are out."""
    lower = {}
    for shadow in found:
        for under in lower_shadows(shadow):
            number = sum(shadow) - sum(under)
            bag = lower.setdefault(under, {})
            for behind, many in found[shadow].items():
                counts = (number,) + behind
                bag[counts] = bag.get(counts, 0) + many
    return lower


def bag_of(house):
    """The bag of a house, with counts ascending."""
    if house.count() > MOST_TABLES:
        raise TooGreat(MOST_TABLES)
    found = {padded(house.shape, house.size): {(): 1}}
    while () not in found:
        found = lowered_bags(found)
    return in_ascending_order(found[()])


def bag_of_words(words):
    """The bag of some words, with counts ascending."""
    found = {}
    for word in words:
        if word.size != words[0].size:
            raise OtherSize()
        counts = word.counts()
        found[counts] = found.get(counts, 0) + 1
    return in_ascending_order(found)


def added(size, one, other):
    """The sum of two bags, with counts ascending."""
    check_size(size)
    check_bag(size, one)
    check_bag(size, other)
    total = {counts: one[counts] for counts in one}
    for counts in other:
        total[counts] = total.get(counts, 0) + other[counts]
    return in_ascending_order(total)


def sign_of(numbers):
    """-1 if an odd number of pairs of some numbers are ascending, otherwise 1; 0 if two numbers are the same."""
    sign = 1
    for at, before in enumerate(numbers):
        for behind in numbers[at + 1:]:
            if before == behind:
                return 0
            if before < behind:
                sign = -sign
    return sign


def stepped(counts):
    """Counts with size - 1 more of the letter 1, size - 2 more of the letter 2, and so on."""
    return [number + len(counts) - 1 - k for k, number in enumerate(counts)]


def sum_at(bag, counts):
    """The signed sum of a bag at counts."""
    steps = stepped(counts)
    total = 0
    # There may be many more orders than counts in the bag, and each of these belongs to one order at most.
    for key in bag:
        order = [step - number for step, number in zip(steps, key)]
        if sorted(order) == list(range(len(order))):
            total += bag[key] * sign_of(order)
    return total


def signed_sum(size, bag, counts):
    """The signed sum of a bag at counts."""
    check_size(size)
    check_bag(size, bag)
    if not is_key(size, counts):
        raise BadCounts(counts)
    return sum_at(bag, counts)


def is_falling(counts):
    """Whether no number is greater than the one before it."""
    return all([behind <= before for before, behind in zip(counts, counts[1:])])


def falling_sums(bag):
    """By falling counts, the signed sums of a bag that has counts in each order equally often; the others are 0."""
    sums = {}
    for key in bag:
        # As the bag has all orders of counts equally often, the counts can be put in order in the place of q: stepped,
        # they belong to one signed sum, or to none if two of them have become the same.
        steps = stepped(key)
        sign = sign_of(steps)
        if sign != 0:
            ranked = sorted(steps, reverse=True)
            falling = tuple([step + k + 1 - len(key) for k, step in enumerate(ranked)])
            sums[falling] = sums.get(falling, 0) + sign * bag[key]
    return sums


def unlike_pair(bag):
    """Counts that differ by an exchange of neighbors, and that the bag has not equally often; or None."""
    for counts in bag:
        for k in range(len(counts) - 1):
            other = counts[:k] + (counts[k + 1], counts[k]) + counts[k + 2:]
            if bag.get(other, 0) != bag[counts]:
                return counts, other
    return None


def bar(size, bag):
    """What shows that a bag is not the sum of the bags of some houses, or None if it is."""
    check_size(size)
    check_bag(size, bag)
    pair = unlike_pair(bag)
    if pair is not None:
        return (UNLIKE,) + pair
    sums = falling_sums(bag)
    for counts in sums:
        if sums[counts] < 0:
            return BELOW, counts
    return None


def apart(size, bag):
    """By shapes, how often the houses occur whose sum a bag is, or None if it is no such sum."""
    if bar(size, bag) is not None:
        return None
    sums = falling_sums(bag)
    return {unpadded(counts): sums[counts] for counts in sorted(sums) if sums[counts] > 0}


def is_unlike(bag, one, other):
    """Whether counts have the same numbers in another order, and the bag has them not equally often."""
    return sorted(one) == sorted(other) and bag.get(one, 0) != bag.get(other, 0)


def is_bar(size, bag, value):
    """Whether any value shows that a bag is not the sum of the bags of some houses."""
    check_size(size)
    check_bag(size, bag)
    if not isinstance(value, tuple) or not value or not isinstance(value[0], str):
        return False
    if not all([is_key(size, counts) for counts in value[1:]]):
        return False
    if value[0] == UNLIKE:
        return len(value) == 3 and is_unlike(bag, value[1], value[2])
    return value[0] == BELOW and len(value) == 2 and is_falling(value[1]) and sum_at(bag, value[1]) < 0
