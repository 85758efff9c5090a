"""A slow and plain reading of points [11] to [13], samples, and what several tests ask for."""

import sys
from itertools import product

SIZES = (2, 3, 4, 5, 6)
THOUSAND_DIGITS = 10 ** 999
# Values of other kinds than integers; floats are never passed.
OTHER_KINDS = (True, False, None, "", "1", "a", b"1", (), (1,), (1, 2), [], [1], {}, {1: 1}, slice(0, 1), slice(None),
               object(), int, len)
# The greatest length up to which all words of a size are taken.
ALL_UP_TO = {2: 7, 3: 5, 4: 4, 5: 3, 6: 3}


def refusal(case, error, call, *args, **named):
    """The exception of a call that must be refused with exactly this class."""
    with case.assertRaises(error) as caught:
        call(*args, **named)
    case.assertIs(type(caught.exception), error)
    return caught.exception


def lines_run(call):
    """How many lines a call goes through: a measure of its work that is the same on each machine."""
    lines = 0

    def trace(frame, event, arg):
        nonlocal lines
        lines += event == "line"
        return trace

    before = sys.gettrace()
    sys.settrace(trace)
    try:
        call()
    finally:
        sys.settrace(before)
    return lines


def short_letters(size):
    """The letters of all short words of a size."""
    for length in range(ALL_UP_TO[size] + 1):
        yield from product(range(1, size + 1), repeat=length)


def long_letters(size, many=30):
    """Letters of longer words of a size, the same ones each time, up to 40 letters."""
    state = 12345 + size
    for number in range(many):
        letters = []
        for _ in range(8 + number * 7 % 33):
            state = (state * 1103515245 + 12345) % 2 ** 31
            letters.append(1 + (state >> 12) % size)
        yield tuple(letters)
    yield tuple(1 + k * (size - 1) // 39 for k in range(40))
    yield tuple(size - k * (size - 1) // 39 for k in range(40))


def samples(size):
    """Letters of many words of a size, short and long ones."""
    yield from short_letters(size)
    yield from long_letters(size)


def plain_pairs(letters, i):
    """Each closing bracket takes the nearest opening one before it that is free."""
    partner = {}
    for place in range(len(letters)):
        if letters[place] != i:
            continue
        for before in range(place - 1, -1, -1):
            if letters[before] == i + 1 and before not in partner:
                partner[before] = place
                break
    return tuple(sorted(partner.items()))


def plain_spare(letters, i):
    """The places of i and of i + 1 that stand in no pair."""
    taken = [place for pair in plain_pairs(letters, i) for place in pair]
    free = [place for place in range(len(letters)) if place not in taken]
    return (tuple(place for place in free if letters[place] == i),
            tuple(place for place in free if letters[place] == i + 1))


def plain_up(letters, i):
    """The letters after up at i, or None."""
    lows = plain_spare(letters, i)[0]
    if not lows:
        return None
    return tuple(i + 1 if place == max(lows) else letter for place, letter in enumerate(letters))


def plain_down(letters, i):
    """The letters after down at i, or None."""
    highs = plain_spare(letters, i)[1]
    if not highs:
        return None
    return tuple(i if place == min(highs) else letter for place, letter in enumerate(letters))


def plain_deed(letters, deed):
    """The letters after a deed, or None."""
    return plain_up(letters, deed) if deed > 0 else plain_down(letters, -deed)


def plain_times(letters, deed):
    """How often a deed can be done, by doing it."""
    times = 0
    letters = plain_deed(letters, deed)
    while letters is not None:
        times += 1
        letters = plain_deed(letters, deed)
    return times


def plain_ends_say_top(letters, size):
    """The second sentence of [20]: each end has at least as many i as i + 1."""
    return all(letters[at:].count(i) >= letters[at:].count(i + 1)
               for at in range(len(letters)) for i in range(1, size))
