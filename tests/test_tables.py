import unittest

from liftwords import tables
from liftwords.deeds import deeds_of, run
from liftwords.errors import (BadIndex, BadLetters, BadNumber, BadRecording, BadSize, BadTable, Stuck, TooGreat)
from liftwords.tables import Table, bumped, inserted, recording, word_of
from liftwords.words import Word
from tests.plain import OTHER_KINDS, SIZES, THOUSAND_DIGITS, long_letters, plain_deed, plain_times, refusal, samples
from tests.plain_tables import (SMALL, plain_counts, plain_fillings, plain_full, plain_insert, plain_is_table,
                                plain_reading, plain_shadow, plain_shapes, plain_table, plain_trimmed)

NO_SIZES = (*OTHER_KINDS, 0, 1, 7, -2, THOUSAND_DIGITS)
# No lists or tuples of lists or tuples.
NO_ROWS = (None, True, False, 0, 1, -1, "", "1", b"", b"\x01", {}, {1: 1}, {1}, range(2), object(), slice(0, 1),
           iter([[1]]), THOUSAND_DIGITS, int, Word(3, [1]), Table(3, [[1]]), [None], [1], (1,), [[1], 2], [[1], "2"],
           ["1"], [[1], {}], [[1], {2: 2}], ([1], b"\x02"), [range(1, 2)], [[1, 1], None, [2]])


def no_letters(size):
    return (*OTHER_KINDS, 0, -1, size + 1, THOUSAND_DIGITS, -THOUSAND_DIGITS)


def some_rows(size):
    """The rows of small tables, and of the tables of long words, up to 40 letters."""
    for shape in plain_shapes(size, SMALL[size]):
        yield from plain_fillings(size, shape)
    for letters in long_letters(size):
        yield plain_table(letters)[0]
    # Full columns: all of them, and with other ones behind.
    many = 40 // size
    yield tuple((letter,) * many for letter in range(1, size + 1))
    yield tuple((letter,) * (3 + (size - letter)) for letter in range(1, size + 1))
    yield ((1, 1, size), *((letter,) * 2 for letter in range(2, size + 1)))


class Making(unittest.TestCase):

    def test_where_they_stand(self):
        for name in ("Table", "inserted", "bumped", "recording", "word_of"):
            self.assertEqual(getattr(tables, name).__module__, "liftwords.tables")
        for name in ("reading", "counts", "shadow", "full", "trimmed", "ups", "downs", "up", "down", "__eq__"):
            self.assertIn(name, vars(Table))

    def test_fields(self):
        for size in SIZES:
            for rows in some_rows(size):
                forms = (rows, list(rows), [list(row) for row in rows], tuple(list(row) for row in rows),
                         [list(row) if k % 2 else row for k, row in enumerate(rows)])
                for given in forms:
                    table = Table(size, given)
                    self.assertEqual((table.size, table.rows), (size, rows))
                    self.assertEqual(table.shape, tuple(len(row) for row in rows))
                    for field in (table.rows, table.shape, *table.rows):
                        self.assertIs(type(field), tuple)

    def test_the_greatest_ones(self):
        self.assertEqual(Table(2, [[1] * 40]).shape, (40,))
        self.assertEqual(Table(6, [[k] * n for k, n in ((1, 7), (2, 7), (3, 7), (4, 7), (5, 6), (6, 6))]).shape,
                         (7, 7, 7, 7, 6, 6))
        self.assertEqual(Table(4, []).rows, ())
        self.assertEqual(Table(4, ()).shape, ())

    def test_later_changes(self):
        rows = [[1, 2], [2]]
        table = Table(3, rows)
        rows[0][1] = 3
        rows[1].append(3)
        rows.append([3])
        self.assertEqual(table.rows, ((1, 2), (2,)))
        self.assertEqual(table.shape, (2, 1))
        self.assertEqual(table.reading(), Word(3, [2, 1, 2]))

    def test_by_names(self):
        table = Table(rows=[[1, 3], [2]], size=3)
        self.assertEqual(table, Table(3, [[1, 3], [2]]))
        self.assertEqual(table.shadow(letter=2), (1, 1, 0))
        self.assertEqual((table.ups(i=1), table.downs(i=1)), (table.ups(1), table.downs(1)))
        self.assertEqual((table.up(i=2), table.down(i=2)), (table.up(2), table.down(2)))
        self.assertEqual(inserted(letter=1, table=table), inserted(table, 1))
        self.assertEqual(bumped(word=Word(3, [3, 1])), Table(3, [[1], [3]]))
        self.assertEqual(recording(word=Word(3, [3, 1])), ((0,), (1,)))
        self.assertEqual(word_of(rows=((0, 2), (1,)), table=table), word_of(table, ((0, 2), (1,))))

    def test_no_size(self):
        for size in NO_SIZES:
            for rows in ([], [[1]], None, [[0]], [[1] * 41], [1]):
                self.assertIs(refusal(self, BadSize, Table, size, rows).value, size)

    def test_no_rows(self):
        for rows in (*NO_ROWS, [[1] * 41, None], [None, [1] * 41], [[], 1], [[0], 1], [[2, 1], [], "3"]):
            with self.subTest(rows=rows):
                self.assertIsNone(refusal(self, BadTable, Table, 3, rows).row)

    def test_too_many_letters(self):
        for rows in ([[1] * 41], [[1] * 40, [2]], [[1] * 21, [2] * 20], [[0] * 41], [[None] * 41], [[2, 1] * 21],
                     [[], [1] * 41], [[1]] * 41, [[1], [1] * 40], ((1,) * 20, (1,) * 21), [[1] * 1000] * 3):
            for size in (2, 6):
                self.assertEqual(refusal(self, TooGreat, Table, size, rows).most, 40)

    def test_forty_letters_that_are_no_table(self):
        self.assertEqual(refusal(self, BadTable, Table, 3, [[1] * 39 + [0]]).row, 0)
        self.assertEqual(refusal(self, BadTable, Table, 3, [[1] * 39, [1]]).row, 1)
        self.assertEqual(refusal(self, BadTable, Table, 3, [[1]] * 40).row, 1)

    def test_the_first_row_that_cannot_stand(self):
        for rows, row in (([[]], 0), ([[], []], 0), ([[], [1]], 0), ([[1], []], 1), ([[1, 1], [2], []], 2),
                          ([[1], [2, 2]], 1), ([[1, 1], [2], [3, 3]], 2), ([[2, 1]], 0), ([[1, 3, 2]], 0),
                          ([[1, 1, 1], [3, 2]], 1), ([[1, 2], [1]], 1), ([[1], [1]], 1), ([[2], [1]], 1),
                          ([[1, 2], [2, 2]], 1), ([[1, 1], [2, 2], [3, 2]], 2), ([[1, 1], [2, 2], [2, 3]], 2),
                          ([[3], [3], [0]], 1), ([[1, 2], [2, 1], [0]], 1), ([[4]], 0), ([[1], [4]], 1),
                          ([[1], [2], [3], [4]], 3), ([[1], [2], [3], [3]], 3), ([[0]], 0), ([[-1, 1]], 0)):
            for given in (rows, tuple(map(tuple, rows))):
                self.assertEqual(refusal(self, BadTable, Table, 3, given).row, row)

    def test_items_that_are_no_letters(self):
        for size in SIZES:
            for wrong in no_letters(size):
                for rows, row in (([[wrong]], 0), ([[1, wrong]], 0), ([[wrong, 2]], 0), ([[1], [wrong]], 1),
                                  ([[1, 1], [2, wrong]], 1), ([[1, 1], [wrong], []], 1), ([[2, 1], [wrong]], 0)):
                    self.assertEqual(refusal(self, BadTable, Table, size, rows).row, row)

    def test_all_small_rows(self):
        # All rows of letters of size 3 in all shapes with few places, also in those that are none.
        for lengths in ((1,), (2,), (3,), (1, 1), (2, 1), (1, 2), (2, 2), (1, 1, 1), (2, 1, 1), (1, 0), (1, 1, 0)):
            many = sum(lengths)
            for number in range(3 ** many):
                letters = [1 + number // 3 ** k % 3 for k in range(many)]
                rows, at = [], 0
                for length in lengths:
                    rows.append(letters[at:at + length])
                    at += length
                wrong = [k for k in range(len(rows)) if not plain_is_table(3, rows[:k + 1])]
                if wrong:
                    self.assertEqual(refusal(self, BadTable, Table, 3, rows).row, wrong[0])
                else:
                    self.assertEqual(Table(3, rows).rows, tuple(map(tuple, rows)))


class Comparing(unittest.TestCase):

    def test_equal(self):
        table = Table(3, [[1, 2], [3]])
        for other in (Table(3, ((1, 2), (3,))), Table(3, [[1, 2], (3,)]), table):
            self.assertIs(table == other, True)
            self.assertIs(table != other, False)
        for other in (Table(4, [[1, 2], [3]]), Table(3, [[1, 2]]), Table(3, [[1, 2, 3]]), Table(3, [[1, 3], [3]]),
                      Table(3, [[1], [3]]), Word(3, [3, 1, 2]), ((1, 2), (3,)), [[1, 2], [3]], None, 3, "3:12/3",
                      *OTHER_KINDS):
            self.assertIs(table == other, False)
            self.assertIs(table != other, True)
            self.assertIs(other == table, False)
        self.assertIs(Table(3, []) == Table(2, []), False)
        self.assertIs(Table(3, []) == Word(3, []), False)

    def test_operators_that_are_not_described(self):
        table = Table(3, [[1, 2], [3]])
        for call in (lambda: table + table, lambda: table + Word(3, [1]), lambda: Word(3, [1]) + table,
                     lambda: table * 2, lambda: 2 * table, lambda: table < table, lambda: table >= table,
                     lambda: 1 in table, lambda: len(table), lambda: table[0], lambda: list(table), lambda: -table):
            with self.assertRaises(TypeError):
                call()


class Telling(unittest.TestCase):

    def test_examples(self):
        table = Table(3, [[1, 1, 2, 3], [2, 3], [3]])
        self.assertEqual(table.reading(), Word(3, [3, 2, 3, 1, 1, 2, 3]))
        self.assertEqual(table.counts(), (2, 2, 3))
        self.assertEqual(table.shadow(1), (2, 0, 0))
        self.assertEqual(table.shadow(2), (3, 1, 0))
        self.assertEqual(table.shadow(3), (4, 2, 1))
        self.assertEqual(table.full(), 1)
        self.assertEqual(table.trimmed(), Table(3, [[1, 2, 3], [3]]))
        self.assertEqual(Table(2, [[1, 1], [2, 2]]).trimmed(), Table(2, []))

    def test_against_the_plain_reading(self):
        for size in SIZES:
            for rows in some_rows(size):
                table = Table(size, rows)
                self.assertEqual(table.reading(), Word(size, plain_reading(rows)))
                self.assertEqual(table.counts(), plain_counts(size, plain_reading(rows)))
                for letter in range(1, size + 1):
                    self.assertEqual(table.shadow(letter), plain_shadow(size, rows, letter))
                self.assertEqual(table.full(), plain_full(size, rows))
                trimmed = table.trimmed()
                self.assertIsInstance(trimmed, Table)
                self.assertEqual((trimmed.size, trimmed.rows), (size, plain_trimmed(size, rows)))
                self.assertEqual(trimmed.full(), 0)
                self.assertIs(type(table.counts()), tuple)
                self.assertIs(type(table.shadow(1)), tuple)
                self.assertEqual(table.rows, rows)

    def test_several_full_columns_have_been_tried(self):
        for size in SIZES:
            self.assertGreaterEqual({plain_full(size, rows) for rows in some_rows(size)}, {0, 1, 2, 3})

    def test_shadow_at_no_letter(self):
        for size in SIZES:
            for table in (Table(size, []), Table(size, [[1, size]])):
                for letter in no_letters(size):
                    self.assertIs(refusal(self, BadNumber, table.shadow, letter).value, letter)

    def test_deeds(self):
        for size in SIZES:
            for rows in list(some_rows(size))[::2]:
                table = Table(size, rows)
                letters = plain_reading(rows)
                for i in range(1, size):
                    self.assertEqual(table.ups(i), plain_times(letters, i))
                    self.assertEqual(table.downs(i), plain_times(letters, -i))
                    for deed, call in ((i, table.up), (-i, table.down)):
                        wanted = plain_deed(letters, deed)
                        if wanted is None:
                            self.assertEqual(refusal(self, Stuck, call, i).place, 0)
                            continue
                        after = call(i)
                        self.assertIsInstance(after, Table)
                        self.assertEqual((after.size, after.shape), (size, table.shape))
                        self.assertEqual(plain_reading(after.rows), wanted)
                        # [22]: what comes of the reading has just this table.
                        self.assertEqual(after.rows, plain_table(wanted)[0])
                self.assertEqual(table.rows, rows)

    def test_deeds_at_no_index(self):
        for size in SIZES:
            for table in (Table(size, []), Table(size, [[1, size]])):
                for call in (table.ups, table.downs, table.up, table.down):
                    for i in (*OTHER_KINDS, 0, -1, size, THOUSAND_DIGITS):
                        self.assertIs(refusal(self, BadIndex, call, i).value, i)


class Inserting(unittest.TestCase):

    def test_examples(self):
        table = Table(3, [[1, 2, 2, 3], [2]])
        self.assertEqual(inserted(table, 3), (Table(3, [[1, 2, 2, 3, 3], [2]]), 0))
        self.assertEqual(inserted(table, 2), (Table(3, [[1, 2, 2, 2], [2, 3]]), 1))
        self.assertEqual(inserted(table, 1), (Table(3, [[1, 1, 2, 3], [2, 2]]), 1))
        self.assertEqual(inserted(Table(3, [[1, 3], [3]]), 1), (Table(3, [[1, 1], [3, 3]]), 1))
        self.assertEqual(inserted(Table(3, [[2], [3]]), 1), (Table(3, [[1], [2], [3]]), 2))
        self.assertEqual(inserted(Table(2, []), 2), (Table(2, [[2]]), 0))
        self.assertEqual(bumped(Word(3, [2, 1, 3, 1])).rows, ((1, 1), (2, 3)))
        self.assertEqual(recording(Word(3, [2, 1, 3, 1])), ((0, 2), (1, 3)))

    def test_letter_by_letter(self):
        for size in SIZES:
            for letters in samples(size):
                word = Word(size, letters)
                rows, places = plain_table(letters)
                self.assertEqual(bumped(word), Table(size, rows))
                self.assertEqual(recording(word), places)
                self.assertIs(type(recording(word)), tuple)
                self.assertTrue(all(type(row) is tuple for row in recording(word)))
                self.assertEqual(word, Word(size, letters))

    def test_insert_into_each_table(self):
        for size in SIZES:
            for rows in some_rows(size):
                if len(plain_reading(rows)) == 40:
                    continue
                table = Table(size, rows)
                for letter in range(1, size + 1):
                    wanted = [list(row) for row in rows]
                    number = plain_insert(wanted, letter)
                    told = inserted(table, letter)
                    self.assertIs(type(told), tuple)
                    self.assertEqual(told, (Table(size, wanted), number))
                    self.assertEqual(table, Table(size, rows))

    def test_no_words_letters_and_the_longest(self):
        for size in SIZES:
            self.assertEqual(bumped(Word(size, [])), Table(size, []))
            self.assertEqual(recording(Word(size, [])), ())
            self.assertEqual(bumped(Word(size, [size])), Table(size, [[size]]))
            self.assertEqual(recording(Word(size, [size])), ((0,),))
            self.assertEqual(bumped(Word(size, [1] * 40)).shape, (40,))
            self.assertEqual(recording(Word(size, [1] * 40)), (tuple(range(40)),))
            down = Word(size, [size - k for k in range(size)])
            self.assertEqual(recording(down), tuple((k,) for k in range(size)))

    def test_refusals(self):
        for size in SIZES:
            for table in (Table(size, []), Table(size, [[1] * 39]), Table(size, [[1] * 40])):
                for letter in no_letters(size):
                    self.assertIsNone(refusal(self, BadLetters, inserted, table, letter).place)
            for letter in range(1, size + 1):
                for table in (Table(size, [[1] * 40]), Table(size, [[1] * 20, [2] * 20])):
                    self.assertEqual(refusal(self, TooGreat, inserted, table, letter).most, 40)
                self.assertEqual(sum(inserted(Table(size, [[1] * 39]), letter)[0].shape), 40)

    def test_equal_calls(self):
        word = Word(4, [4, 2, 3, 1, 4, 1])
        self.assertEqual(bumped(word), bumped(Word(4, [4, 2, 3, 1, 4, 1])))
        self.assertEqual(recording(word), recording(Word(4, (4, 2, 3, 1, 4, 1))))


def plain_recordings(shape):
    """All recordings of a shape, place by place from the last one on."""
    if not sum(shape):
        return [tuple(() for _ in shape)]
    found = []
    for row in range(len(shape)):
        if shape[row] > (shape[row + 1] if row + 1 < len(shape) else 0):
            smaller = shape[:row] + (shape[row] - 1,) + shape[row + 1:]
            for rows in plain_recordings(smaller):
                found.append(rows[:row] + (rows[row] + (sum(shape) - 1,),) + rows[row + 1:])
    return found


class BackToWords(unittest.TestCase):

    def test_examples(self):
        table = Table(3, [[1, 1], [2, 3]])
        self.assertEqual(word_of(table, ((0, 2), (1, 3))), Word(3, [2, 1, 3, 1]))
        self.assertEqual(word_of(table, [[0, 1], [2, 3]]), Word(3, [2, 3, 1, 1]))
        self.assertEqual(word_of(Table(3, []), ()), Word(3, []))
        self.assertEqual(word_of(Table(3, []), []), Word(3, []))

    def test_each_word_comes_back(self):
        for size in SIZES:
            for letters in samples(size):
                word = Word(size, letters)
                rows = recording(word)
                self.assertEqual(word_of(bumped(word), rows), word)
                self.assertEqual(word_of(bumped(word), [list(row) for row in rows]), word)
                self.assertEqual(word_of(bumped(word), [list(row) if k else row for k, row in enumerate(rows)]), word)

    def test_each_recording_has_a_word(self):
        for size in SIZES:
            seen = {}
            for shape in plain_shapes(size, SMALL[size]):
                recordings = plain_recordings(shape)
                for rows in plain_fillings(size, shape):
                    for places in recordings:
                        word = word_of(Table(size, rows), places)
                        self.assertIsInstance(word, Word)
                        self.assertEqual(word.size, size)
                        self.assertEqual(plain_table(word.letters), (rows, places))
                        self.assertNotIn(word.letters, seen)
                        seen[word.letters] = True
            # All words of these lengths have come so.
            self.assertEqual(len(seen), sum(size ** length for length in range(SMALL[size] + 1)))

    def test_long_recordings_of_another_word(self):
        for size in SIZES:
            words = [Word(size, letters) for letters in long_letters(size)]
            for word in words:
                # The reading of the table has the same table, but a recording of its own.
                places = recording(Word(size, plain_reading(bumped(word).rows)))
                other = word_of(bumped(word), places)
                self.assertEqual(other.letters, plain_reading(bumped(word).rows))

    def test_no_recordings(self):
        table = Table(3, [[1, 1, 2], [2, 3]])
        for rows in (*NO_ROWS, [(0, 1, 2), None], [(0, 1, 2), 3], [(0, 1, 2), "34"], [(0, 1, 2), {3: 3, 4: 4}],
                     # other shapes
                     (), [()], [(0, 1, 2, 3, 4)], [(0, 1, 2, 3), (4,)], [(0, 1, 2)], [(0, 1, 2), (3,)],
                     [(0, 1), (2, 3)], [(0, 1, 2), (3, 4), ()], [(0, 1, 2), (3,), (4,)], [(0, 1), (2, 3, 4)],
                     [(0, 1, 2), (3, 4), (5,)],
                     # a place missing, twice or too great
                     [(0, 1, 2), (3, 5)], [(0, 1, 2), (2, 4)], [(0, 1, 2), (3, 3)], [(1, 2, 3), (4, 5)],
                     [(0, 1, 3), (2, 5)], [(0, 2, 3), (1, THOUSAND_DIGITS)], [(-1, 0, 1), (2, 3)], [(0, 0, 1), (2, 3)],
                     # an order that falls
                     [(0, 2, 1), (3, 4)], [(1, 0, 2), (3, 4)], [(0, 1, 2), (4, 3)], [(1, 2, 3), (0, 4)],
                     [(0, 3, 4), (1, 2)], [(2, 3, 4), (0, 1)],
                     # items of other kinds
                     [(0, True, 2), (3, 4)], [(False, 1, 2), (3, 4)], [(0, 1, 2), (3, None)], [(0, 1, 2), (3, "4")],
                     [(0, 1, 2), (3, (4,))], [(0, 1, 2), ([3], 4)], [(0, {}, 2), (3, 4)]):
            with self.subTest(rows=rows):
                refusal(self, BadRecording, word_of, table, rows)
        for rows in ([(0, 1, 2), (3, 4)], [(0, 2, 4), (1, 3)], ((0, 1, 3), [2, 4])):
            self.assertIsInstance(word_of(table, rows), Word)
        for rows in ([()], [(0,)], None, {}, ""):
            refusal(self, BadRecording, word_of, Table(3, []), rows)
        refusal(self, BadRecording, word_of, Table(3, [[1], [2], [3]]), [[0], [2], [1]])
        refusal(self, BadRecording, word_of, Table(3, [[1]]), [[True]])
        refusal(self, BadRecording, word_of, Table(3, [[1]]), [[False]])

    def test_what_was_passed_stays(self):
        rows = [[0, 2], [1, 3]]
        table = Table(3, [[1, 1], [2, 3]])
        word_of(table, rows)
        self.assertEqual(rows, [[0, 2], [1, 3]])
        self.assertEqual(table, Table(3, [[1, 1], [2, 3]]))

    def test_deeds_keep_the_recording(self):
        for size in SIZES:
            for letters in list(samples(size))[::3]:
                word = Word(size, letters)
                table = bumped(word)
                for deed in deeds_of(word):
                    after = run(word, [deed])
                    led = table.up(deed) if deed > 0 else table.down(-deed)
                    self.assertEqual(bumped(after), led)
                    self.assertEqual(recording(after), recording(word))
                for i in range(1, size):
                    self.assertEqual((table.ups(i), table.downs(i)), (word.ups(i), word.downs(i)))


if __name__ == "__main__":
    unittest.main()
