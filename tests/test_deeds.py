import unittest

from liftwords import deeds
from liftwords.deeds import bottom_of, can, deeds_of, first_stuck, inverse, run, to_bottom, to_top, top_of
from liftwords.errors import BadDeed, BadSize, Stuck
from liftwords.words import Word
from tests.plain import (OTHER_KINDS, SIZES, THOUSAND_DIGITS, lines_run, long_letters, plain_deed, refusal,
                         samples)

NO_ROWS = (None, True, False, 0, 1, -1, "", "1", b"\x01", {}, {1: 1}, {1}, range(2), object(), slice(0, 1), iter([1]),
           THOUSAND_DIGITS, Word(3, [1]))


def all_deeds(size):
    return [deed for deed in range(1 - size, size) if deed != 0]


def no_deeds(size):
    return (*OTHER_KINDS, 0, size, -size, size + 1, THOUSAND_DIGITS, -THOUSAND_DIGITS)


def plain_stuck(letters, row):
    """The letters that a row leads to, and the place where it is stuck, or None."""
    for place, deed in enumerate(row):
        after = plain_deed(letters, deed)
        if after is None:
            return letters, place
        letters = after
    return letters, None


def some_rows(size):
    """Rows of deeds, the same ones each time."""
    state = 99 + size
    choice = all_deeds(size)
    for length in (1, 1, 2, 2, 3, 3, 4, 5, 6, 8, 12):
        row = []
        for _ in range(length):
            state = (state * 1103515245 + 12345) % 2 ** 31
            row.append(choice[(state >> 12) % len(choice)])
        yield tuple(row)


def rows_that_go(word, length=25):
    """A long row that can be done on the word, as far as one can be made."""
    row = []
    letters = word.letters
    for step in range(length):
        choice = [deed for deed in all_deeds(word.size) if plain_deed(letters, deed) is not None]
        if not choice:
            break
        row.append(choice[(step * 5 + 3) % len(choice)])
        letters = plain_deed(letters, row[-1])
    return row


class Rows(unittest.TestCase):

    def test_where_they_stand(self):
        for name in ("run", "can", "first_stuck", "deeds_of", "inverse", "to_top", "to_bottom", "top_of", "bottom_of"):
            self.assertEqual(getattr(deeds, name).__module__, "liftwords.deeds")

    def test_examples(self):
        word = Word(3, [1, 2])
        self.assertEqual(run(word, [-1, 1, 2]).letters, (1, 3))
        self.assertEqual(run(word, (2, 1)).letters, (2, 3))
        self.assertEqual(first_stuck(word, [2, 2, -1]), 1)
        self.assertEqual(refusal(self, Stuck, run, word, [2, 2, -1]).place, 1)
        self.assertIs(can(word, [2, 2, -1]), False)
        self.assertIs(can(word, [2, 1]), True)

    def test_empty_rows(self):
        for size in SIZES:
            for word in (Word(size, []), Word(size, [1, size])):
                for row in ([], ()):
                    self.assertEqual(run(word, row), word)
                    self.assertIs(can(word, row), True)
                    self.assertIsNone(first_stuck(word, row))
                    self.assertEqual(inverse(size, row), ())

    def test_against_the_plain_reading(self):
        for size in SIZES:
            for letters in list(samples(size))[::5]:
                word = Word(size, letters)
                for row in (*some_rows(size), tuple(rows_that_go(word)), (*rows_that_go(word), size - 1, 1 - size)):
                    with self.subTest(size, letters=letters, row=row):
                        self.agrees(word, row)

    def agrees(self, word, row):
        wanted, stuck = plain_stuck(word.letters, row)
        given = list(row)
        self.assertEqual(first_stuck(word, given), stuck)
        self.assertEqual(first_stuck(word, row), stuck)
        self.assertIs(can(word, given), stuck is None)
        if stuck is None:
            self.assertEqual(run(word, given), Word(word.size, wanted))
            self.assertEqual(run(run(word, row), inverse(word.size, row)), word)
        else:
            self.assertEqual(refusal(self, Stuck, run, word, given).place, stuck)
        self.assertEqual(given, list(row))

    def test_a_thousand_deeds(self):
        word = Word(2, [1])
        row = [1, -1] * 500
        for given in (row, tuple(row)):
            self.assertEqual(run(word, given), word)
            self.assertIs(can(word, given), True)
            self.assertIsNone(first_stuck(word, given))
            self.assertEqual(inverse(2, given), (1, -1) * 500)
        row = [1, -1] * 499 + [1, 1]
        self.assertEqual(first_stuck(word, row), 999)
        self.assertEqual(refusal(self, Stuck, run, word, row).place, 999)

    def refusals(self, size, row, place):
        word = Word(size, [1, 1])
        for call in (lambda: run(word, row), lambda: can(word, row), lambda: first_stuck(word, row),
                     lambda: inverse(size, row)):
            self.assertEqual(refusal(self, BadDeed, call).place, place)

    def test_rows_of_another_kind(self):
        for row in NO_ROWS:
            self.refusals(3, row, None)

    def test_rows_that_are_too_long(self):
        for row in ([1, -1] * 500 + [1], (1, -1) * 500 + (1,), [None] * 1001, [-1] * 2000):
            self.refusals(3, row, None)

    def test_items_that_are_no_deeds(self):
        for size in SIZES:
            for wrong in no_deeds(size):
                self.refusals(size, [wrong], 0)
                self.refusals(size, (1, -1, wrong, 1, wrong, 0), 2)
                # Down at 1 is stuck at place 0, but the item that is no deed is told.
                self.refusals(size, [-1, 1, 1, wrong], 3)
                self.refusals(size, [1, -1] * 499 + [1, wrong], 999)

    def test_deeds_of(self):
        self.assertEqual(deeds_of(Word(3, [1, 2])), (-1, 1, 2))
        self.assertEqual(deeds_of(Word(3, [2, 2])), (-1, 2))
        self.assertEqual(deeds_of(Word(3, [3, 1])), (-2, 1))
        self.assertEqual(deeds_of(Word(3, [3, 2, 1])), ())
        self.assertEqual(deeds_of(Word(6, [])), ())
        for size in SIZES:
            for letters in samples(size):
                wanted = tuple(deed for deed in all_deeds(size) if plain_deed(letters, deed) is not None)
                self.assertEqual(deeds_of(Word(size, letters)), wanted)
                self.assertIs(type(deeds_of(Word(size, letters))), tuple)

    def test_inverse(self):
        row = [1, -2, 2, 2]
        self.assertEqual(inverse(3, row), (-2, -2, 2, -1))
        self.assertEqual(inverse(3, tuple(row)), (-2, -2, 2, -1))
        self.assertEqual(row, [1, -2, 2, 2])

    def test_inverse_bad_size_first(self):
        for size in (*OTHER_KINDS, 0, 1, 7, -2, THOUSAND_DIGITS):
            for row in ([1], None, [0], [1] * 1001):
                self.assertIs(refusal(self, BadSize, inverse, size, row).value, size)

    def test_by_names(self):
        word = Word(3, [1, 2])
        self.assertEqual(run(row=[2], word=word), run(word, [2]))
        self.assertIs(can(row=[2], word=word), True)
        self.assertEqual(first_stuck(row=[1, 1, 1], word=word), first_stuck(word, [1, 1, 1]))
        self.assertEqual(inverse(row=[2, 1], size=3), (-1, -2))
        for call in (deeds_of, to_top, to_bottom, top_of, bottom_of):
            self.assertEqual(call(word=word), call(word))


def long_row(size, letters, length):
    """A long row of mixed deeds that can be done, the letters that come, and a deed that cannot be done on them."""
    state = 4711 + size
    choice = all_deeds(size)
    row = []
    while True:
        state = (state * 1103515245 + 12345) % 2 ** 31
        deed = choice[(state >> 12) % len(choice)]
        after = plain_deed(letters, deed)
        if after is None and len(row) == length:
            return tuple(row), letters, deed
        if after is not None and len(row) < length:
            row.append(deed)
            letters = after
        elif len(row) == length and all(plain_deed(letters, deed) for deed in choice):
            return tuple(row), letters, None


class LongRows(unittest.TestCase):

    def test_against_the_plain_reading(self):
        for size in SIZES:
            for letters in (*list(long_letters(size))[-4:], tuple(1 + k * k % size for k in range(40))):
                word = Word(size, letters)
                row, wanted, stuck = long_row(size, letters, 300)
                self.assertEqual(run(word, row), Word(size, wanted))
                self.assertEqual(run(word, list(row[:-1])), run(Word(size, wanted), inverse(size, row[-1:])))
                self.assertIsNone(first_stuck(word, row))
                self.assertEqual(run(run(word, row), inverse(size, row)), word)
                if stuck is not None:
                    self.assertEqual(first_stuck(word, (*row, stuck, *row)), len(row))
                    self.assertEqual(refusal(self, Stuck, run, word, [*row, stuck]).place, len(row))
                    self.assertIs(can(word, [*row, stuck]), False)
                self.assertEqual(word, Word(size, letters))

    def test_a_thousand_mixed_deeds(self):
        for size in (3, 6):
            letters = tuple(1 + k * 7 % size for k in range(40))
            row, wanted, stuck = long_row(size, letters, 1000)
            self.assertEqual(run(Word(size, letters), row), Word(size, wanted))
            self.assertEqual(run(Word(size, wanted), inverse(size, row)), Word(size, letters))

    def test_a_thousand_deeds_on_forty_letters(self):
        for size in SIZES:
            word = Word(size, [1] * 40)
            self.assertEqual(run(word, [1, -1] * 500), word)
            self.assertEqual(run(word, [1] * 40 + [-1, 1] * 480), Word(size, [2] * 40))
            self.assertEqual(first_stuck(word, [1] * 40 + [-1, 1] * 479 + [1, -1]), 998)

    def test_the_work_does_not_grow_with_the_letters(self):
        # A deed at the index of the deed before it costs the same on a long word as on a short one.
        row = [1, -1] * 500
        for size in (2, 6):
            few = lines_run(lambda: run(Word(size, [1]), row))
            many = lines_run(lambda: run(Word(size, [1] * 40), row))
            self.assertLess(many, few + 1000)
            self.assertLess(many, 30000)

    def test_the_work_of_mixed_deeds(self):
        # At most one reading of the letters for each deed.
        for size in (3, 6):
            letters = tuple(1 + k * 7 % size for k in range(40))
            row = long_row(size, letters, 300)[0]
            self.assertLess(lines_run(lambda: run(Word(size, letters), row)), 300 * 40 * 4)


class ToTheEnds(unittest.TestCase):

    def test_examples(self):
        self.assertEqual(to_top(Word(3, [3, 3])), (-2, -1, -2, -1))
        self.assertEqual(top_of(Word(3, [3, 3])), Word(3, [1, 1]))
        self.assertEqual(to_bottom(Word(3, [1, 1])), (1, 1, 2, 2))
        self.assertEqual(bottom_of(Word(3, [1, 1])), Word(3, [3, 3]))
        self.assertEqual(to_top(Word(3, [3, 2, 1])), ())
        self.assertEqual(to_bottom(Word(6, [])), ())

    def test_the_least_index_at_each_step(self):
        for size in SIZES:
            for letters in samples(size):
                word = Word(size, letters)
                for row, sign in ((to_top(word), -1), (to_bottom(word), 1)):
                    wanted = []
                    now = letters
                    able = [sign * i for i in range(1, size) if plain_deed(now, sign * i)]
                    while able:
                        wanted.append(able[0])
                        now = plain_deed(now, able[0])
                        able = [sign * i for i in range(1, size) if plain_deed(now, sign * i)]
                    self.assertIs(type(row), tuple)
                    self.assertEqual(row, tuple(wanted))

    def test_where_they_lead(self):
        for size in SIZES:
            for letters in samples(size):
                word = Word(size, letters)
                self.assertEqual(run(word, to_top(word)), top_of(word))
                self.assertEqual(run(word, to_bottom(word)), bottom_of(word))
                self.assertTrue(top_of(word).is_top())
                self.assertTrue(bottom_of(word).is_bottom())
                self.assertEqual(word, Word(size, letters))

    def test_each_other_way_has_the_same_length_and_top(self):
        for size in SIZES:
            for letters in [*list(samples(size))[::11], *long_letters(size, 5)]:
                word = Word(size, letters)
                for turn in range(4):
                    now, steps = letters, 0
                    able = [i for i in range(1, size) if plain_deed(now, -i)]
                    while able:
                        now = plain_deed(now, -able[-1 - (turn * steps) % len(able)])
                        steps += 1
                        able = [i for i in range(1, size) if plain_deed(now, -i)]
                    self.assertEqual(Word(size, now), top_of(word))
                    self.assertEqual(steps, len(to_top(word)))

    def test_the_longest_way(self):
        self.assertEqual(len(to_top(Word(6, [6] * 40))), 200)
        self.assertEqual(len(to_bottom(Word(6, [1] * 40))), 200)
        self.assertEqual(top_of(Word(6, [6] * 40)), Word(6, [1] * 40))

    def test_equal_calls_give_equal_results(self):
        word = Word(4, [4, 2, 3, 1, 4])
        for call in (deeds_of, to_top, to_bottom, top_of, bottom_of):
            self.assertEqual(call(word), call(Word(4, [4, 2, 3, 1, 4])))


if __name__ == "__main__":
    unittest.main()
