import unittest
from itertools import product

from liftwords import mirrors
from liftwords.alike import alike
from liftwords.deeds import can, first_stuck, run
from liftwords.errors import BadDeed, BadIndex, BadRow, BadSize
from liftwords.houses import House
from liftwords.mirrors import evacuated, growth_of, mirrored, mirrored_row, order_of, turned, turned_by
from liftwords.tables import Table, bumped
from liftwords.words import Word
from tests.plain import OTHER_KINDS, SIZES, THOUSAND_DIGITS, long_letters, plain_deed, refusal, samples
from tests.plain_alike import plain_order_of, plain_turned, wandered, with_column
from tests.plain_tables import plain_reading, plain_shapes, plain_table

# Values that are no lists or tuples.
NO_LISTS = (None, True, False, 0, 1, -1, "", "1", b"\x01", {}, {1: 1}, {1}, range(2), object(), slice(0, 1), iter([1]),
            THOUSAND_DIGITS, Word(3, [1]))


def no_indexes(size):
    """Items that are no index of a size."""
    return (0, -1, size, size + 1, -size, True, False, None, "", "1", [], [1], (1,), {}, b"1", THOUSAND_DIGITS,
            -THOUSAND_DIGITS, int, Word(size, [1]))


def no_deeds(size):
    """Items that are no deed of a size."""
    return tuple(value for value in no_indexes(size) if value != -1 or isinstance(value, bool)) + (-size - 1,)


def short_rows(size, most):
    """All rows of indexes of a size with at most as many items."""
    for length in range(most + 1):
        yield from product(range(1, size), repeat=length)


def check_rows(case, call, size):
    """What a call must refuse that takes a row of indexes."""
    for row in NO_LISTS:
        case.assertIsNone(refusal(case, BadRow, call, row).place)
    case.assertIsNone(refusal(case, BadRow, call, [1] * 41).place)
    case.assertIsNone(refusal(case, BadRow, call, (None,) * 41).place)
    case.assertIsNone(refusal(case, BadRow, call, (1,) * 1000).place)
    call([1] * 40)
    call((1,) * 40)
    for item in no_indexes(size):
        for place in (0, 1, 5, 39):
            row = [1] * place + [item] + [1, 0, None][:39 - place]
            case.assertEqual(refusal(case, BadRow, call, row).place, place)
            case.assertEqual(refusal(case, BadRow, call, tuple(row)).place, place)


class Mirrored(unittest.TestCase):

    def test_where_they_stand(self):
        for name in ("mirrored", "mirrored_row", "turned", "turned_by", "order_of", "growth_of", "evacuated"):
            self.assertEqual(getattr(mirrors, name).__module__, "liftwords.mirrors")

    def test_examples(self):
        self.assertEqual(mirrored(Word(3, [1, 1, 2])), Word(3, [2, 3, 3]))
        self.assertEqual(mirrored(Word(6, [])), Word(6, []))
        self.assertEqual(mirrored_row(3, [1, -2]), (-2, 1))
        self.assertEqual(mirrored_row(2, (1, -1)), (-1, 1))
        self.assertEqual(mirrored_row(6, ()), ())

    def test_words(self):
        for size in SIZES:
            for letters in samples(size):
                word = Word(size, letters)
                told = mirrored(word)
                self.assertEqual(told, Word(size, [size + 1 - letters[-1 - k] for k in range(len(letters))]))
                self.assertEqual(mirrored(told), word)

    def test_rows(self):
        for size in SIZES:
            deeds = [deed for deed in range(1 - size, size) if deed]
            wanted = {deed: -(size - deed) if deed > 0 else size + deed for deed in deeds}
            for length in range(4):
                for row in product(deeds, repeat=length):
                    for given in (row, list(row)):
                        told = mirrored_row(size, given)
                        self.assertIs(type(told), tuple)
                        self.assertEqual(told, tuple(wanted[deed] for deed in row))
                    self.assertEqual(mirrored_row(size, told), row)

    def test_the_mirrored_row_on_the_mirrored_word(self):
        done = {True: 0, False: 0}
        for size in SIZES:
            deeds = [deed for deed in range(1 - size, size) if deed]
            for number, letters in enumerate(samples(size)):
                row = [deeds[(number * k + k * k + number) % len(deeds)] for k in range(number % 6)]
                word = Word(size, letters)
                told = mirrored_row(size, row)
                self.assertEqual(first_stuck(mirrored(word), told), first_stuck(word, row))
                now = letters
                for deed in row:
                    now = now and plain_deed(now, deed)
                done[bool(now)] += 1
                if now:
                    self.assertEqual(run(mirrored(word), told), mirrored(Word(size, now)))
        self.assertGreater(min(done.values()), 100)

    def test_alike_words(self):
        for size in SIZES:
            for letters in long_letters(size, 10):
                one, other = Word(size, letters), Word(size, wandered(size, letters, 8))
                self.assertIs(alike(mirrored(one), mirrored(other)), True)
                if len(letters) + size <= 40:
                    more = Word(size, with_column(size, letters, 3))
                    self.assertIs(alike(mirrored(one), mirrored(more)), True)

    def test_a_thousand_deeds(self):
        row = [1, -2] * 500
        self.assertEqual(mirrored_row(3, row), (-2, 1) * 500)
        self.assertIsNone(refusal(self, BadDeed, mirrored_row, 3, row + [1]).place)
        self.assertIsNone(refusal(self, BadDeed, mirrored_row, 3, tuple(row) + (None,)).place)

    def test_refusals(self):
        for size in (*OTHER_KINDS, 0, 1, 7, -3, THOUSAND_DIGITS):
            for row in ([1], None, [0], [None] * 1001):
                self.assertIs(refusal(self, BadSize, mirrored_row, size, row).value, size)
        for size in SIZES:
            for row in NO_LISTS:
                self.assertIsNone(refusal(self, BadDeed, mirrored_row, size, row).place)
            for item in no_deeds(size):
                for place in (0, 1, 5, 999):
                    row = [1] * place + [item] + [-1, 0, None][:999 - place]
                    self.assertEqual(refusal(self, BadDeed, mirrored_row, size, row).place, place)
                    self.assertEqual(refusal(self, BadDeed, mirrored_row, size, tuple(row)).place, place)


class Evacuated(unittest.TestCase):

    def test_example(self):
        self.assertEqual(evacuated(Table(3, [[1, 1], [2]])), Table(3, [[2, 3], [3]]))
        self.assertEqual(evacuated(Table(4, [])), Table(4, []))

    def test_whole_houses(self):
        for size in SIZES:
            for shape in plain_shapes(size, 4 if size < 5 else 3):
                house = House(size, shape)
                found = [evacuated(table) for table in house.tables()]
                for table, told in zip(house.tables(), found):
                    self.assertIs(type(told), Table)
                    letters = [size + 1 - letter for letter in plain_reading(table.rows)][::-1]
                    self.assertEqual(told, Table(size, plain_table(letters)[0]))
                    self.assertEqual(told.shape, table.shape)
                    self.assertEqual(told.counts(), table.counts()[::-1])
                    self.assertEqual(evacuated(told), table)
                self.assertEqual(sorted(map(house.number_of, found)), list(range(house.count())))

    def test_the_table_of_any_mirrored_word(self):
        for size in SIZES:
            for letters in samples(size):
                word = Word(size, letters)
                self.assertEqual(bumped(mirrored(word)), evacuated(bumped(word)))

    def test_forty_letters(self):
        for size in SIZES:
            for letters in list(long_letters(size))[-6:]:
                table = bumped(Word(size, letters))
                self.assertEqual(evacuated(table).shape, table.shape)
                self.assertEqual(evacuated(evacuated(table)), table)


class Turned(unittest.TestCase):

    def test_examples(self):
        self.assertEqual(turned(Word(3, [1, 2, 2, 1, 1, 2]), 1), Word(3, [1, 2, 2, 1, 1, 2]))
        self.assertEqual(turned(Word(3, [1, 1, 1, 2]), 1), Word(3, [1, 2, 2, 2]))
        self.assertEqual(turned(Word(3, [1, 1, 1, 2]), 2), Word(3, [1, 1, 1, 3]))
        self.assertEqual(turned_by(Word(3, [1, 1, 1, 2]), [1, 2]), Word(3, [1, 3, 3, 3]))

    def test_against_the_plain_reading(self):
        for size in SIZES:
            for letters in samples(size):
                word = Word(size, letters)
                for i in range(1, size):
                    told = turned(word, i)
                    self.assertEqual(told.letters, plain_turned(letters, i))
                    self.assertEqual(turned(told, i), word)
                    counts = list(word.counts())
                    counts[i - 1], counts[i] = counts[i], counts[i - 1]
                    self.assertEqual(told.counts(), tuple(counts))
                self.assertEqual(word, Word(size, letters))

    def test_no_index(self):
        for size in SIZES:
            word = Word(size, [1, size, 1])
            for i in (*OTHER_KINDS, *no_indexes(size)):
                self.assertIs(refusal(self, BadIndex, turned, word, i).value, i)

    def test_index_by_index(self):
        for size in SIZES:
            for number, letters in enumerate(samples(size)):
                row = tuple(1 + (number * k + k) % (size - 1) for k in range(number % 9))
                wanted = letters
                for i in row:
                    wanted = plain_turned(wanted, i)
                for given in (row, list(row)):
                    self.assertEqual(turned_by(Word(size, letters), given), Word(size, wanted))

    def test_neighbors_and_others(self):
        for size in SIZES:
            for letters in samples(size):
                word = Word(size, letters)
                for i in range(1, size - 1):
                    self.assertEqual(turned_by(word, [i, i + 1, i]), turned_by(word, [i + 1, i, i + 1]))
                for i in range(1, size):
                    for j in range(i + 2, size):
                        self.assertEqual(turned_by(word, [i, j]), turned_by(word, [j, i]))

    def test_rows_with_the_same_order(self):
        for size, most in ((3, 5), (4, 4), (5, 3)):
            for letters in long_letters(size, 3):
                word = Word(size, letters)
                found = {}
                for row in short_rows(size, most):
                    self.assertEqual(found.setdefault(order_of(size, row), turned_by(word, row)), turned_by(word, row))

    def test_alike_words(self):
        for size in SIZES:
            for letters in long_letters(size, 6):
                one, other = Word(size, letters), Word(size, wandered(size, letters, 8))
                for i in range(1, size):
                    self.assertIs(alike(turned(one, i), turned(other, i)), True)
                    if len(letters) + size <= 40:
                        self.assertIs(alike(turned(one, i), turned(Word(size, with_column(size, letters, 2)), i)), True)

    def test_no_rows(self):
        for size in SIZES:
            check_rows(self, lambda row: turned_by(Word(size, [1, 1, size]), row), size)

    def test_forty_times(self):
        word = Word(4, [1, 2, 1, 4, 3, 3, 2, 1] * 5)
        self.assertEqual(turned_by(word, [3] * 40), word)
        self.assertEqual(turned_by(word, [1, 2, 1, 2, 1, 2] * 6), word)


class Orders(unittest.TestCase):

    def test_examples(self):
        self.assertEqual(order_of(3, [1, 2]), (2, 3, 1))
        self.assertEqual(growth_of(3, [1, 2]), (2, 3, 1))
        self.assertEqual(order_of(3, [1, 1]), (1, 2, 3))
        self.assertEqual(growth_of(3, [1, 1]), (2, 1, 3))
        self.assertEqual(growth_of(6, []), (1, 2, 3, 4, 5, 6))

    def test_against_the_plain_reading(self):
        for size, most in ((2, 6), (3, 6), (4, 5), (5, 4), (6, 4)):
            for row in short_rows(size, most):
                for given in (row, list(row)):
                    self.assertEqual(order_of(size, given), plain_order_of(size, row, False))
                    self.assertEqual(growth_of(size, given), plain_order_of(size, row, True))
                self.assertIs(type(order_of(size, row)), tuple)
                self.assertIs(type(growth_of(size, row)), tuple)

    def test_long_rows(self):
        for size in SIZES:
            for turn in range(20):
                row = [1 + (turn * k + k * k) % (size - 1) for k in range(40)]
                self.assertEqual(order_of(size, row), plain_order_of(size, row, False))
                self.assertEqual(growth_of(size, row), plain_order_of(size, row, True))

    def test_refusals(self):
        for call in (order_of, growth_of):
            for size in (*OTHER_KINDS, 0, 1, 7, -3, THOUSAND_DIGITS):
                for row in ([1], None, [0], [1] * 41):
                    self.assertIs(refusal(self, BadSize, call, size, row).value, size)
            for size in SIZES:
                check_rows(self, lambda row: call(size, row), size)


class Calls(unittest.TestCase):

    def test_by_names(self):
        word = Word(3, [1, 2, 1, 3])
        self.assertEqual(mirrored(word=word), mirrored(word))
        self.assertEqual(mirrored_row(row=[1, -2], size=3), (-2, 1))
        self.assertEqual(turned(i=2, word=word), turned(word, 2))
        self.assertEqual(turned_by(row=[2, 1], word=word), turned_by(word, [2, 1]))
        self.assertEqual(order_of(row=[2, 1], size=3), (3, 1, 2))
        self.assertEqual(growth_of(row=[2, 1], size=3), (3, 1, 2))
        self.assertEqual(evacuated(table=bumped(word)), evacuated(bumped(word)))

    def test_what_was_passed_stays(self):
        word, row, deeds = Word(3, [1, 2, 1, 3]), [2, 1], [1, -2]
        for call in (lambda: turned_by(word, row), lambda: order_of(3, row), lambda: growth_of(3, row),
                     lambda: mirrored_row(3, deeds), lambda: mirrored(word), lambda: turned(word, 1)):
            self.assertEqual(call(), call())
        self.assertEqual((word, row, deeds), (Word(3, [1, 2, 1, 3]), [2, 1], [1, -2]))
        self.assertIs(can(word, mirrored_row(3, deeds)), can(word, (-2, 1)))


if __name__ == "__main__":
    unittest.main()
