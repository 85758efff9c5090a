import unittest

from liftwords import moves
from liftwords.errors import BadMove, TooGreat
from liftwords.moves import moved, moves_of, returned, to_reading, to_trimmed, walked
from liftwords.tables import Table, bumped
from liftwords.words import Word
from tests.plain import OTHER_KINDS, SIZES, THOUSAND_DIGITS, long_letters, refusal, samples, short_letters
from tests.plain_tables import plain_full, plain_move, plain_reading, plain_table, plain_trimmed

KINDS = ("first", "last", "in", "out")
# Neither of these is a pair of one of the four words and a place.
NO_MOVES = (*OTHER_KINDS, ["in", 0], ["first", 0], "in", "in0", ("in",), ("in", 0, 0), ("first", 0, 1), (0, "in"),
            ("up", 0), ("", 0), ("IN", 0), ("in ", 0), ("firs", 0), (b"in", 0), (0, 0), (None, 0), (("in",), 0),
            (["in"], 0), ({}, 0), ("in", True), ("in", False), ("in", None), ("in", "0"), ("in", (0,)), ("in", [0]),
            ("in", -1), ("first", -1), ("last", -1), ("out", -1), ("out", False), ("first", False), ("last", True),
            ("in", -THOUSAND_DIGITS), ("out", slice(0, 1)), {"in": 0}, Word(2, [1, 2]), ("in", {}), (int, 0))
# No lists or tuples.
NO_LISTS = (None, True, False, 0, 1, "", "in", b"in", {}, {("in", 0): 1}, {("in", 0)}, range(0), iter([]), object(),
            THOUSAND_DIGITS, Word(2, []))


def full_words(size):
    """Words with full columns at many places, by all and by one another."""
    column = tuple(range(size, 0, -1))
    yield column
    yield column * 2
    yield (1, *column, size)
    yield column[:1] + column + column[1:]
    yield column * (40 // size)
    yield (1,) * (40 - size) + column


class OneMove(unittest.TestCase):

    def test_where_they_stand(self):
        for name in ("moved", "walked", "moves_of", "returned", "to_reading", "to_trimmed"):
            self.assertEqual(getattr(moves, name).__module__, "liftwords.moves")

    def test_examples(self):
        word = Word(3, [1, 3, 2, 1])
        self.assertEqual(moved(word, ("first", 0)), Word(3, [3, 1, 2, 1]))
        self.assertEqual(moved(Word(3, [2, 3, 1]), ("last", 0)), Word(3, [2, 1, 3]))
        self.assertEqual(moved(word, ("in", 1)), Word(3, [1, 3, 2, 1, 3, 2, 1]))
        self.assertEqual(moved(word, ("out", 1)), Word(3, [1]))
        self.assertEqual(refusal(self, BadMove, moved, word, ("out", 0)).place, 0)
        # The edges of the order: equal letters on either side.
        self.assertEqual(moved(Word(2, [1, 2, 1]), ("first", 0)), Word(2, [2, 1, 1]))
        self.assertEqual(moved(Word(2, [2, 1, 1]), ("first", 0)), Word(2, [1, 2, 1]))
        self.assertEqual(moved(Word(2, [2, 1, 2]), ("last", 0)), Word(2, [2, 2, 1]))
        self.assertEqual(moved(Word(2, [2, 2, 1]), ("last", 0)), Word(2, [2, 1, 2]))
        for letters in ((1, 2, 2), (1, 1, 2), (2, 2, 2), (2, 1, 2), (2, 2, 1)):
            refusal(self, BadMove, moved, Word(2, letters), ("first", 0))
        for letters in ((1, 2, 2), (1, 1, 2), (2, 2, 2), (1, 2, 1), (2, 1, 1)):
            refusal(self, BadMove, moved, Word(2, letters), ("last", 0))

    def letters(self, size):
        return [*list(short_letters(size))[::2], *long_letters(size, 8), *full_words(size)]

    def test_each_move_at_each_place(self):
        for size in SIZES:
            made = {kind: 0 for kind in KINDS}
            for letters in self.letters(size):
                word = Word(size, letters)
                for place in (*range(len(letters) + 3), 40, 41, 999, THOUSAND_DIGITS):
                    for kind in KINDS:
                        made[kind] += self.agrees(word, (kind, place))
                self.assertEqual(word, Word(size, letters))
            self.assertTrue(all(made.values()), made)

    def agrees(self, word, move):
        wanted = plain_move(word.size, word.letters, move)
        if wanted is None:
            self.assertEqual(refusal(self, BadMove, moved, word, move).place, 0)
            return 0
        if len(wanted) > 40:
            self.assertEqual(move[0], "in")
            self.assertEqual(refusal(self, TooGreat, moved, word, move).most, 40)
            return 0
        self.assertEqual(moved(word, move), Word(word.size, wanted))
        return 1

    def test_values_that_are_no_moves(self):
        for word in (Word(2, []), Word(3, [1, 3, 2]), Word(2, [1] * 40)):
            for move in NO_MOVES:
                with self.subTest(word=word.letters, move=move):
                    self.assertEqual(refusal(self, BadMove, moved, word, move).place, 0)

    def test_too_great(self):
        for size in SIZES:
            for length in range(41 - size, 41):
                word = Word(size, [1] * length)
                for place in (0, length // 2, length):
                    self.assertEqual(refusal(self, TooGreat, moved, word, ("in", place)).most, 40)
                for place in (length + 1, 41, THOUSAND_DIGITS):
                    self.assertEqual(refusal(self, BadMove, moved, word, ("in", place)).place, 0)
            word = Word(size, [1] * (40 - size))
            for place in (0, 40 - size):
                self.assertEqual(len(moved(word, ("in", place))), 40)
            refusal(self, BadMove, moved, word, ("in", 41 - size))

    def test_words_with_the_same_table(self):
        # [23]: the moves first and last never change the table, and lead to each word that has it.
        for size, length in ((2, 6), (3, 5), (4, 4), (5, 4)):
            by_table = {}
            for letters in short_letters_of(size, length):
                by_table.setdefault(plain_table(letters)[0], set()).add(letters)
            for rows, words in by_table.items():
                start = min(words)
                led = {start: True}
                waiting = [start]
                while waiting:
                    word = Word(size, waiting.pop())
                    for move in moves_of(word):
                        if move[0] != "out":
                            after = moved(word, move).letters
                            if after not in led:
                                led[after] = True
                                waiting.append(after)
                self.assertEqual(set(led), words)

    def test_by_names(self):
        word = Word(3, [1, 3, 2])
        self.assertEqual(moved(move=("first", 0), word=word), moved(word, ("first", 0)))
        self.assertEqual(walked(moves=[("first", 0)], word=word), walked(word, [("first", 0)]))
        self.assertEqual(moves_of(word=word), moves_of(word))
        self.assertEqual(returned(moves=[("in", 3)]), (("out", 3),))
        self.assertEqual(to_reading(word=word), to_reading(word))
        self.assertEqual(to_trimmed(word=word), to_trimmed(word))


def short_letters_of(size, length):
    return [tuple(1 + number // size ** k % size for k in range(length)) for number in range(size ** length)]


class Rows(unittest.TestCase):

    def test_walked(self):
        word = Word(3, [1, 3, 2, 1])
        row = [("first", 0), ("in", 4), ("out", 4), ("first", 0), ("out", 1)]
        for given in (row, tuple(row)):
            self.assertEqual(walked(word, given), Word(3, [1]))
        self.assertEqual(row, [("first", 0), ("in", 4), ("out", 4), ("first", 0), ("out", 1)])
        for given in ([], ()):
            self.assertEqual(walked(word, given), word)
            self.assertEqual(walked(Word(6, []), given), Word(6, []))

    def test_no_lists(self):
        for given in NO_LISTS:
            self.assertIsNone(refusal(self, BadMove, walked, Word(2, [1]), given).place)

    def test_the_first_move_that_cannot_be_made(self):
        for wrong in (*NO_MOVES, ("out", 0), ("first", 2), ("in", 5), ("in", THOUSAND_DIGITS)):
            word = Word(3, [1, 3, 2, 1])
            for row, place in (([wrong], 0), ([("first", 0), wrong], 1), ([("out", 1), ("in", 0), ("out", 0), wrong], 3),
                               ((("first", 0), ("first", 0), wrong, wrong), 2)):
                self.assertEqual(refusal(self, BadMove, walked, word, row).place, place)

    def test_too_great_where_it_comes_first(self):
        word = Word(3, [1] * 36)
        self.assertEqual(refusal(self, TooGreat, walked, word, [("in", 0), ("in", 0)]).most, 40)
        self.assertEqual(refusal(self, TooGreat, walked, word, [("in", 36), ("in", 0), ("out", 1)]).most, 40)
        self.assertEqual(refusal(self, TooGreat, walked, word, [("in", 36), ("in", 0), None]).most, 40)
        self.assertEqual(refusal(self, BadMove, walked, word, [("in", 0), ("out", 1), ("in", 0)]).place, 1)
        self.assertEqual(refusal(self, BadMove, walked, word, [("in", 0), None, ("in", 0)]).place, 1)
        self.assertEqual(refusal(self, BadMove, walked, word, [("in", 0), ("in", 40)]).place, 1)
        # A word that is too long only in between is refused too.
        refusal(self, TooGreat, walked, word, [("in", 0), ("in", 0), ("out", 0)])
        self.assertEqual(len(walked(word, [("in", 0), ("out", 0), ("in", 0)])), 39)

    def test_many_moves(self):
        word = Word(3, [1, 3, 2])
        self.assertEqual(walked(word, [("first", 0)] * 20000), word)
        self.assertEqual(walked(word, [("first", 0)] * 20001), Word(3, [3, 1, 2]))
        self.assertEqual(refusal(self, BadMove, walked, word, [("first", 0)] * 20000 + [("out", 0)]).place, 20000)

    def test_moves_of(self):
        self.assertEqual(moves_of(Word(3, [1, 3, 2, 1])), (("first", 0), ("out", 1)))
        self.assertEqual(moves_of(Word(2, [2, 1, 2, 1])),
                         (("first", 1), ("last", 0), ("out", 0), ("out", 2)))
        for size in SIZES:
            for letters in [*samples(size), *full_words(size)]:
                told = moves_of(Word(size, letters))
                wanted = tuple((kind, place) for kind in ("first", "last", "out") for place in range(len(letters))
                               if plain_move(size, letters, (kind, place)) is not None)
                self.assertIs(type(told), tuple)
                self.assertEqual(told, wanted)
                self.assertEqual(list(told), sorted(told))

    def test_returned(self):
        row = [("first", 3), ("in", 0), ("out", 12), ("last", 7)]
        self.assertEqual(returned(row), (("last", 7), ("in", 12), ("out", 0), ("first", 3)))
        self.assertEqual(returned(tuple(row)), returned(row))
        self.assertEqual(row, [("first", 3), ("in", 0), ("out", 12), ("last", 7)])
        self.assertEqual(returned([]), ())
        self.assertEqual(returned(()), ())

    def test_returned_leads_back(self):
        for size in SIZES:
            for letters in [*list(samples(size))[::5], *full_words(size)]:
                word = Word(size, letters)
                row = a_walk(word)
                self.assertEqual(walked(walked(word, row), returned(row)), word)
                self.assertEqual(returned(returned(row)), row)


def a_walk(word):
    """A row of moves of all kinds, the same one each time."""
    row = []
    for step in range(12):
        choice = list(moves_of(word))
        if len(word) + word.size <= 40 and step % 4 == 0:
            choice = [("in", step * 3 % (len(word) + 1))]
        if not choice:
            break
        row.append(choice[(step * 7 + 2) % len(choice)])
        word = moved(word, row[-1])
    return tuple(row)


class ToTheTable(unittest.TestCase):

    def walk(self, size, letters, row):
        """Make the moves by the plain reading; the letters that come."""
        self.assertIs(type(row), tuple)
        self.assertLessEqual(len(row), 20000)
        for move in row:
            self.assertIs(type(move), tuple)
            letters = plain_move(size, letters, move)
            self.assertIsNotNone(letters)
            self.assertLessEqual(len(letters), 40)
        return letters

    def letters(self, size):
        return [*samples(size), *full_words(size)]

    def test_to_reading(self):
        for size in SIZES:
            for letters in self.letters(size):
                row = to_reading(Word(size, letters))
                self.assertLessEqual({kind for kind, _ in row}, {"first", "last"})
                self.assertEqual(self.walk(size, letters, row), plain_reading(plain_table(letters)[0]))
                self.assertEqual(to_reading(Word(size, letters)), row)

    def test_to_trimmed(self):
        for size in SIZES:
            columns = []
            for letters in self.letters(size):
                row = to_trimmed(Word(size, letters))
                rows = plain_table(letters)[0]
                kinds = [kind for kind, _ in row]
                self.assertLessEqual(set(kinds), {"first", "last", "out"})
                self.assertEqual(kinds.count("out"), plain_full(size, rows))
                self.assertEqual(self.walk(size, letters, row), plain_reading(plain_trimmed(size, rows)))
                self.assertEqual(to_trimmed(Word(size, letters)), row)
                columns.append(kinds.count("out"))
            self.assertGreaterEqual(set(columns), {0, 1, 2, 40 // size})

    def test_each_length(self):
        for size in SIZES:
            for length in range(41):
                letters = tuple(1 + (k * k + k // 3 + length) % size for k in range(length))
                rows = plain_table(letters)[0]
                word = Word(size, letters)
                self.assertEqual(self.walk(size, letters, to_reading(word)), plain_reading(rows))
                self.assertEqual(self.walk(size, letters, to_trimmed(word)),
                                 plain_reading(plain_trimmed(size, rows)))
                self.assertEqual(word, Word(size, letters))

    def test_words_with_the_same_table_are_led_to_each_other(self):
        for size in SIZES:
            for letters in list(samples(size))[::7]:
                one = Word(size, letters)
                other = bumped(one).reading()
                way = to_reading(one) + returned(to_reading(other))
                self.assertEqual(walked(one, way), other)
                for number in range(len(to_reading(one))):
                    self.assertEqual(bumped(walked(one, way[:number])), bumped(one))

    def test_readings_and_empty_words(self):
        for size in SIZES:
            self.assertEqual(to_reading(Word(size, [])), ())
            self.assertEqual(to_trimmed(Word(size, [])), ())
            column = Word(size, range_down(size))
            self.assertEqual(to_reading(column), ())
            self.assertEqual(walked(column, to_trimmed(column)), Table(size, []).reading())


def range_down(size):
    return list(range(size, 0, -1))


if __name__ == "__main__":
    unittest.main()
