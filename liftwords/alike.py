"""Whether words are alike, and papers that show it: moves between them, or a row of deeds that parts them."""

from liftwords.deeds import all_downs, all_ups, can, run, steps_from, to_top
from liftwords.errors import BadDeed, BadMove, OtherSize, TooGreat
from liftwords.houses import MOST_TABLES, House
from liftwords.moves import returned, to_trimmed, walked
from liftwords.tables import bumped

MOVES = "moves"
DEEDS = "deeds"


def check_sizes(one, other):
    """Refuse two words of different sizes."""
    if one.size != other.size:
        raise OtherSize()


def alike(one, other):
    """Whether each row of deeds that can be done on one of two words can be done on the other."""
    check_sizes(one, other)
    return bumped(one).trimmed() == bumped(other).trimmed()


def times(word, deed):
    """How many times a deed can be done, one after another."""
    return word.ups(deed) if deed > 0 else word.downs(-deed)


def telling_row(one, other):
    """A row of deeds that can be done on exactly one of two words that are not alike."""
    row = to_top(one)
    if not can(other, row):
        return row
    top = run(one, row)
    reached = run(other, row)
    # If as many of each deed could be done on both, both would be tops of houses that are the same when trimmed,
    # and the row turned round would lead back to words that are alike.
    for deed in all_downs(one.size) + all_ups(one.size):
        numbers = [times(top, deed), times(reached, deed)]
        if numbers[0] != numbers[1]:
            return row + (deed,) * (min(numbers) + 1)


def paper(one, other):
    """A paper on two words: moves from the first to the second, or deeds that can be done on one of them only."""
    if alike(one, other):
        return MOVES, to_trimmed(one) + returned(to_trimmed(other))
    return DEEDS, telling_row(one, other)


def leads(one, other, moves):
    """Whether moves can be made on a word and lead to another one."""
    try:
        return walked(one, moves) == other
    except (BadMove, TooGreat):
        return False


def parts(one, other, row):
    """Whether a value is a row of deeds that can be done on exactly one of two words."""
    try:
        return can(one, row) != can(other, row)
    except BadDeed:
        return False


def is_paper(one, other, value):
    """Whether any value is a paper on two words."""
    check_sizes(one, other)
    if not isinstance(value, tuple) or len(value) != 2:
        return False
    kind, content = value
    if not isinstance(kind, str) or not isinstance(content, tuple):
        return False
    if kind == MOVES:
        return leads(one, other, content)
    return kind == DEEDS and parts(one, other, content)


def root(joined, letters):
    """The letters that stand for all that are joined with some letters."""
    while letters in joined:
        onward = joined[letters]
        # The way is halved for those who ask later.
        joined[letters] = joined.get(onward, onward)
        letters = onward
    return letters


def shortest_parting(size, one, other):
    """A shortest row of deeds that can be done on exactly one of two letters of words that are not alike."""
    joined = {one: other}
    level = [(one, other, ())]
    while level:
        further = []
        for near, far, row in level:
            here = dict(steps_from(size, near))
            there = dict(steps_from(size, far))
            only = [deed for deed in here if deed not in there] + [deed for deed in there if deed not in here]
            if only:
                return row + (only[0],)
            # A row that parts two letters which earlier pairs join, in a chain, parts one of these pairs too.
            for deed in here:
                low = root(joined, here[deed])
                high = root(joined, there[deed])
                if low != high:
                    joined[low] = high
                    further.append((here[deed], there[deed], row + (deed,)))
        level = further


def parting(one, other):
    """A shortest row of deeds that can be done on exactly one of two words, or None if they are alike."""
    check_sizes(one, other)
    tables = [bumped(one).trimmed(), bumped(other).trimmed()]
    if tables[0] == tables[1]:
        return None
    if min([House(table.size, table.shape).count() for table in tables]) > MOST_TABLES:
        raise TooGreat(MOST_TABLES)
    # The readings of the trimmed tables are as good as the words, and shorter.
    return shortest_parting(one.size, tables[0].reading().letters, tables[1].reading().letters)
