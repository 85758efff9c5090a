import unittest

from liftwords import alike as alike_module
from liftwords.alike import alike, is_paper, paper, parting
from liftwords.deeds import can, deeds_of, run, to_top
from liftwords.errors import OtherSize, TooGreat
from liftwords.houses import House
from liftwords.moves import moves_of
from liftwords.tables import Table
from liftwords.words import Word
from tests.plain import (OTHER_KINDS, SIZES, THOUSAND_DIGITS, lines_run, long_letters, plain_deed, refusal,
                         short_letters)
from tests.plain_alike import (exchanges, full_column, plain_alike, plain_after, plain_leads, plain_parting,
                               plain_stuck, wandered, with_column)
from tests.plain_tables import plain_count, plain_table, plain_trimmed

# The greatest length up to which all pairs of words of a size are taken.
PAIRS_UP_TO = {2: 4, 3: 3, 4: 2, 5: 2, 6: 2}
NESTED = ()
for _ in range(20000):
    NESTED = (NESTED, [NESTED]) if len(NESTED) > 9 else (NESTED,)


def nested_list(depth):
    value = []
    for _ in range(depth):
        value = [value]
    return value


def words_up_to(size, length):
    return [letters for letters in short_letters(size) if len(letters) <= length]


def tables_of(size, letters):
    """How many tables the house of the trimmed table of a word has."""
    return plain_count(size, [len(row) for row in plain_trimmed(size, plain_table(letters)[0])])


def near_pairs(size, many=8):
    """Pairs of longer words, alike ones and others that nearly are."""
    for letters in long_letters(size, many):
        for steps in (0, 1, 12):
            other = wandered(size, letters, steps)
            yield letters, other
            for place in (0, len(other) // 2, len(other)):
                if len(other) + size <= 40:
                    yield letters, with_column(size, other, place)
                    yield with_column(size, other, place), letters
            yield letters, other[1:]
            yield letters, other[:-1] + (1 + other[-1] % size,)


def edge_words(size):
    """Words of 0, 1, 30 and 40 letters, and words with full columns at some places."""
    column = full_column(size)
    many = 40 // size
    rest = 40 - size * many
    return [(), (1,), (size,), tuple(1 + k * 5 % size for k in range(30)), tuple(1 + k * 3 % size for k in range(40)),
            tuple(1 + k * (k + 1) % size for k in range(40)), (1,) * 40, (size,) * 40, (1,) * 30,
            column * many, column * (many - 1), column * many + (1,) * rest, (1,) * rest + column * many, (1,) * rest,
            column[:1] + column * (many - 1) + column[1:], (size,) * many + tuple(
                letter for letter in column[1:] for _ in range(many))]


class Alike(unittest.TestCase):

    def test_where_they_stand(self):
        for name in ("alike", "paper", "is_paper", "parting"):
            self.assertEqual(getattr(alike_module, name).__module__, "liftwords.alike")

    def test_examples(self):
        self.assertIs(alike(Word(3, [1, 2, 1]), Word(3, [2, 1, 1])), True)
        self.assertIs(alike(Word(3, [1, 2, 1]), Word(3, [1, 1, 2])), False)
        self.assertIs(alike(Word(3, []), Word(3, [3, 2, 1])), True)
        self.assertIs(alike(Word(3, [1]), Word(3, [])), False)

    def test_all_pairs_of_small_words(self):
        for size in SIZES:
            words = words_up_to(size, PAIRS_UP_TO[size])
            for one in words:
                for other in words:
                    row = plain_parting(size, one, other)
                    self.assertIs(alike(Word(size, one), Word(size, other)), row is None, (size, one, other))
                    self.assertIs(plain_alike(size, one, other), row is None)

    def test_longer_words(self):
        told = {True: 0, False: 0}
        for size in SIZES:
            for one, other in near_pairs(size):
                wanted = plain_alike(size, one, other)
                told[wanted] += 1
                self.assertIs(alike(Word(size, one), Word(size, other)), wanted)
                self.assertIs(alike(Word(size, other), Word(size, one)), wanted)
        self.assertGreater(min(told.values()), 200)

    def test_edges(self):
        for size in SIZES:
            words = edge_words(size)
            for one in words:
                for other in words:
                    self.assertIs(alike(Word(size, one), Word(size, other)), plain_alike(size, one, other))

    def test_other_sizes(self):
        for size in SIZES:
            for other in SIZES:
                if size != other:
                    pair = (Word(size, [1]), Word(other, [1]))
                    for call in (alike, paper, parting):
                        refusal(self, OtherSize, call, *pair)
                    for value in (*OTHER_KINDS, ("moves", ()), ("deeds", (1,)), NESTED, THOUSAND_DIGITS):
                        refusal(self, OtherSize, is_paper, *pair, value)

    def test_both_ways_and_on_to_a_third_word(self):
        for size in SIZES:
            for letters in long_letters(size, 5):
                words = [Word(size, wandered(size, letters, steps)) for steps in (0, 5, 15)]
                words += [Word(size, with_column(size, word.letters, 1)) for word in words if len(word) + size <= 40]
                for one in words:
                    for other in words:
                        self.assertIs(alike(one, other), True)

    def test_behind_the_same_deeds(self):
        for size in SIZES:
            for letters in long_letters(size, 6):
                one, other = Word(size, letters), Word(size, wandered(size, letters, 9))
                for step in range(12):
                    deeds = deeds_of(one)
                    self.assertEqual(deeds, deeds_of(other))
                    row = [deeds[(5 * step + 1) % len(deeds)]] if deeds else []
                    one, other = run(one, row), run(other, row)
                    self.assertIs(alike(one, other), True)

    def test_beside_the_same_word(self):
        for size in SIZES:
            for number, letters in enumerate(short_letters(size)):
                if number % 17 == 5:
                    one, other = Word(size, letters), Word(size, with_column(size, letters, len(letters) // 2))
                    for third in (Word(size, [1 + number % size]), Word(size, [size, 1, 1, size])):
                        self.assertIs(alike(one + third, other + third), True)
                        self.assertIs(alike(third + one, third + other), True)

    def test_full_columns_put_in_anywhere(self):
        for size in SIZES:
            for letters in long_letters(size, 6):
                if len(letters) + size <= 40:
                    for place in range(len(letters) + 1):
                        self.assertIs(alike(Word(size, letters), Word(size, with_column(size, letters, place))), True)

    def test_what_alike_words_have_in_common(self):
        for size in SIZES:
            for one, other in near_pairs(size, 5):
                if plain_alike(size, one, other):
                    near, far = Word(size, one), Word(size, other)
                    self.assertEqual(deeds_of(near), deeds_of(far))
                    for i in range(1, size):
                        self.assertEqual((near.ups(i), near.downs(i)), (far.ups(i), far.downs(i)))
                    more = {a - b for a, b in zip(near.counts(), far.counts())}
                    self.assertEqual(len(more), 1)

    def test_houses_with_full_columns_more(self):
        for size, shape in ((2, (3,)), (3, (2, 1)), (3, ()), (4, (2, 1)), (5, (1, 1)), (6, (2,))):
            house = House(size, shape)
            for many in (1, 2):
                wide = House(size, [length + many for length in shape] + [many] * (size - len(shape)))
                self.assertEqual(wide.count(), house.count())
                self.assertEqual([table.trimmed() for table in wide.tables()], list(house.tables()))
                for number, table in enumerate(wide.tables()):
                    self.assertEqual(wide.number_of(table), number)
                    self.assertEqual(wide.rank(table), house.rank(table.trimmed()))


def check_paper(case, one, other):
    """Look plainly at what paper tells; whether the words are alike."""
    told = paper(one, other)
    case.assertIs(type(told), tuple)
    case.assertIs(type(told[1]), tuple)
    case.assertEqual(told, paper(Word(one.size, list(one.letters)), Word(other.size, list(other.letters))))
    case.assertIs(is_paper(one, other, told), True)
    case.assertEqual(len(told), 2)
    if told[0] == "moves":
        case.assertTrue(plain_leads(one.size, one.letters, other.letters, told[1]))
        return True
    case.assertEqual(told[0], "deeds")
    case.assertLessEqual(len(told[1]), min(1000, len(to_top(one)) + 41))
    case.assertNotEqual(plain_stuck(one.letters, told[1]), plain_stuck(other.letters, told[1]))
    return False


class Papers(unittest.TestCase):

    def test_small_words(self):
        for size in SIZES:
            words = words_up_to(size, PAIRS_UP_TO[size] - (size == 3))
            for one in words:
                for other in words:
                    self.assertIs(check_paper(self, Word(size, one), Word(size, other)), plain_alike(size, one, other))

    def test_longer_words(self):
        for size in SIZES:
            for one, other in near_pairs(size, 4):
                self.assertIs(check_paper(self, Word(size, one), Word(size, other)), plain_alike(size, one, other))

    def test_edges(self):
        for size in SIZES:
            words = edge_words(size)
            for one in words:
                for other in words:
                    self.assertIs(check_paper(self, Word(size, one), Word(size, other)), plain_alike(size, one, other))

    def test_tops_that_differ_in_their_ups(self):
        self.assertEqual(paper(Word(2, [1] * 39), Word(2, [1] * 40)), ("deeds", (1,) * 40))
        self.assertEqual(paper(Word(2, [1] * 40), Word(2, [1] * 39)), ("deeds", (1,) * 40))


def variants(told):
    """What comes of a paper when something in it is left out, put in or exchanged."""
    kind, row = told
    spare = ("in", 0) if kind == "moves" else 1
    for place in range(0, len(row), 1 + len(row) // 6):
        yield kind, row[:place] + row[place + 1:]
        yield kind, row[:place] + (row[place],) + row[place:]
        yield kind, row[:place] + (spare,) + row[place:]
        yield kind, row[:place] + (spare,) + row[place + 1:]
        if kind == "moves":
            yield kind, row[:place] + ((row[place][0], row[place][1] + 1),) + row[place + 1:]
            yield kind, row[:place] + (({"first": "last", "last": "first", "in": "out", "out": "in"}[row[place][0]],
                                        row[place][1]),) + row[place + 1:]
        else:
            yield kind, row[:place] + (-row[place],) + row[place + 1:]
    for place in range(0, len(row) - 1, 1 + len(row) // 40):
        yield kind, row[:place] + (row[place + 1], row[place]) + row[place + 2:]
    yield kind, row + (spare,)
    yield kind, ()
    yield {"moves": "deeds", "deeds": "moves"}[kind], row


def wrong_forms(told):
    """Values that are no papers, whatever the words, by their form."""
    kind, row = told
    yield from (list(told), [kind, list(row)], (kind, list(row)), (kind,), (kind, row, row), (kind, row, None),
                (kind.upper(), row), (kind + " ", row), ("move", row), ("deed", row), ("", row), (b"moves", row),
                (b"deeds", row), (None, row), (0, row), (True, row), (row, kind), ((kind,), row), ([kind], row),
                (kind, None), (kind, kind), (kind, 0), (kind, {}), (kind, (row,)), (kind, THOUSAND_DIGITS))
    for item in (True, False, None, "1", "in", [], [1], ["in", 0], (), ("in",), ("in", 0, 0), ("in", True), ("up", 0),
                 ("in", None), ("in", "0"), ("in", -1), ("out", THOUSAND_DIGITS), ("out", -THOUSAND_DIGITS), 0, 6, -6,
                 THOUSAND_DIGITS, -THOUSAND_DIGITS, (None, 0), (["in"], 0), {}, NESTED, ("in", NESTED), (NESTED, 0),
                 Word(2, [1]), Table(2, [])):
        yield kind, row + (item,)
        yield kind, (item,) + row
        if row:
            yield kind, row[:-1] + (item,)
    if kind == "moves":
        yield from ((kind, tuple(list(move) for move in row) + (["in", 0],)),
                    (kind, ("in", 0)), ("in", 0), row + ((),))


class IsPaper(unittest.TestCase):

    def pairs(self, size):
        yield (), ()
        yield (1,), (1,)
        yield (), full_column(size)
        yield (1,), (size,)
        for letters in long_letters(size, 3):
            yield letters, wandered(size, letters, 6)
            yield letters, wandered(size, letters, 6)[1:]
            if len(letters) + size <= 40:
                yield letters, with_column(size, letters, 2)

    def plain(self, size, one, other, value):
        if value[0] == "moves":
            return (all(isinstance(move, tuple) for move in value[1])
                    and plain_leads(size, one, other, value[1]))
        return (len(value[1]) <= 1000 and all(isinstance(deed, int) for deed in value[1])
                and plain_stuck(one, value[1]) != plain_stuck(other, value[1]))

    def test_what_is_left_out_put_in_or_exchanged(self):
        told = {True: 0, False: 0}
        for size in SIZES:
            for one, other in self.pairs(size):
                words = Word(size, one), Word(size, other)
                for value in variants(paper(*words)):
                    wanted = self.plain(size, one, other, value)
                    told[wanted] += 1
                    self.assertIs(is_paper(*words, value), wanted, (one, other, value))
        self.assertGreater(min(told.values()), 100)

    def test_the_words_exchanged(self):
        for size in SIZES:
            for one, other in self.pairs(size):
                near, far = Word(size, one), Word(size, other)
                told = paper(near, far)
                self.assertIs(is_paper(far, near, told), self.plain(size, other, one, told))
                if told[0] == "deeds":
                    self.assertIs(is_paper(far, near, told), True)

    def test_wrong_forms(self):
        for size in SIZES:
            for one, other in self.pairs(size):
                words = Word(size, one), Word(size, other)
                for value in wrong_forms(paper(*words)):
                    self.assertIs(is_paper(*words, value), False)

    def test_any_value(self):
        nested = nested_list(20000)
        one, other = Word(3, [1, 2, 1]), Word(3, [2, 1, 1])
        for value in (*OTHER_KINDS, THOUSAND_DIGITS, NESTED, nested, (nested, nested), ("moves", nested),
                      ("deeds", nested), ("moves", (nested,)), ("deeds", (nested,)), ("deeds", (NESTED,)),
                      ("moves", NESTED), one, (one, other), ("moves", one), ("deeds", Word(3, [])), House(3, []),
                      ("moves", {}), ("deeds", {}), {"moves": ()}, "moves", ("moves", "deeds"), "de", "ab", range(2)):
            self.assertIs(is_paper(one, other, value), False)
            self.assertIs(is_paper(one, Word(3, [2]), value), False)

    def test_moves_through_more_than_forty_letters(self):
        for size in SIZES:
            many = 40 // size
            one, other = Word(size, full_column(size) * many), Word(size, [])
            out = (("out", 0),) * many
            self.assertIs(is_paper(one, other, ("moves", out)), True)
            self.assertIs(is_paper(one, other, ("moves", (("out", 0), ("in", 0)) + out)), True)
            self.assertIs(is_paper(one, other, ("moves", (("in", 0), ("out", 0)) + out)), False)
            self.assertIs(is_paper(one, one, ("moves", ())), True)
            self.assertIs(is_paper(one, one, ("moves", (("in", 0), ("out", 0)))), False)

    def test_rows_of_a_thousand_deeds(self):
        one, other = Word(2, [1]), Word(2, [2])
        for length, wanted in ((999, True), (1000, True), (1001, False), (2000, False)):
            row = ((1, -1) * 1000)[:length]
            self.assertIs(is_paper(one, other, ("deeds", row)), wanted)
            self.assertIs(is_paper(other, one, ("deeds", row)), wanted)
        self.assertIs(is_paper(one, one, ("deeds", (1, -1))), False)
        self.assertIs(is_paper(one, other, ("deeds", ())), False)
        # What is no deed does not count behind a deed that is stuck either.
        self.assertIs(is_paper(one, other, ("deeds", (1, -1, 1, 2))), False)


class Parting(unittest.TestCase):

    def agrees(self, size, one, other):
        told = parting(Word(size, one), Word(size, other))
        wanted = plain_parting(size, one, other)
        if wanted is None:
            self.assertIsNone(told)
            return
        self.assertIs(type(told), tuple)
        self.assertEqual(len(told), len(wanted), (size, one, other))
        self.assertNotEqual(plain_stuck(one, told), plain_stuck(other, told))

    def test_all_pairs_of_small_words(self):
        for size in SIZES:
            words = words_up_to(size, PAIRS_UP_TO[size])
            for one in words:
                for other in words:
                    self.agrees(size, one, other)

    def test_some_longer_words(self):
        for size in SIZES:
            words = [letters[:length] for letters in long_letters(size, 5) for length in (3, 5)]
            words += [(1,) * 9, (1,) * 10, (size,) * 10, (1, 1, 2, 2, 1, 1), (2, 1) * 3 + (1,) * 4]
            words = [letters for letters in words if tables_of(size, letters) <= 3000]
            self.assertGreater(len(words), 5)
            for one in words:
                for other in words:
                    self.agrees(size, one, other)

    def test_full_columns_do_not_count(self):
        for size in SIZES:
            one, other = with_column(size, (1, 2), 1), (1, 1, 1)
            self.agrees(size, one, other)
            self.assertIsNone(parting(Word(size, one), Word(size, (1, 2))))

    def test_alike_words_of_great_houses(self):
        for size in (4, 5, 6):
            for letters in list(long_letters(size))[-3:]:
                one = Word(size, letters)
                self.assertIsNone(parting(one, one))
                self.assertIsNone(parting(one, Word(size, wandered(size, letters, 25))))

    def great(self, size):
        return [letters for letters in long_letters(size) if tables_of(size, letters) > 3000]

    def test_both_houses_too_great(self):
        for size in (3, 4, 5, 6):
            words = self.great(size)[-4:]
            if size == 3:
                words = [(1,) * 18 + (2,) * 11 + (1,) * 11, (1,) * 17 + (2,) * 11 + (1,) * 11 + (3,)]
            for one in words:
                for other in words:
                    if not plain_alike(size, one, other):
                        self.assertEqual(refusal(self, TooGreat, parting, Word(size, one), Word(size, other)).most,
                                         3000)

    def test_one_house_too_great(self):
        for size in (4, 5, 6):
            for letters in self.great(size)[-3:]:
                for small in ((), (1,), letters[:4], (1,) * 8, full_column(size) + letters[:4]):
                    one, other = Word(size, letters), Word(size, small)
                    for pair in ((one, other), (other, one)):
                        row = parting(*pair)
                        self.assertNotEqual(can(one, row), can(other, row))
                        # No shorter row is told for the words that any first deed leads to.
                        for deed in plain_after(size, small):
                            if len(row) > 1:
                                here, there = plain_deed(letters, deed), plain_deed(small, deed)
                                self.assertGreaterEqual(len(parting(Word(size, here), Word(size, there))) + 1,
                                                        len(row))

    def test_just_three_thousand_tables(self):
        # The house (28, 9) of size 3 has 3,000 tables; the one that is one letter longer has more.
        one = House(3, (28, 9)).top().reading()
        other = House(3, (29, 10)).top().reading()
        more = House(3, (29, 11)).top().reading()
        self.assertEqual(parting(one, other), (2,) * 10)
        self.assertEqual(parting(other, one), (2,) * 10)
        self.assertEqual(parting(one, more), (2,) * 10)
        self.assertEqual(refusal(self, TooGreat, parting, other, more).most, 3000)
        self.assertEqual(refusal(self, TooGreat, parting, more, other).most, 3000)
        # Trimmed, this house is the first one.
        self.assertEqual(parting(House(3, (29, 10, 1)).top().reading(), other), (2,) * 10)


class Calls(unittest.TestCase):

    def test_by_names(self):
        one, other = Word(3, [1, 2, 1]), Word(3, [2, 2, 1])
        self.assertIs(alike(other=other, one=one), False)
        told = paper(other=other, one=one)
        self.assertEqual(told, paper(one, other))
        self.assertIs(is_paper(value=told, other=other, one=one), True)
        self.assertEqual(parting(other=other, one=one), parting(one, other))

    def test_what_was_passed_stays(self):
        one, other = Word(3, [1, 2, 1]), Word(3, [2, 2, 1])
        value = ("moves", [["in", 0]])
        is_paper(one, other, value)
        parting(one, other)
        paper(one, other)
        self.assertEqual((one, other, value), (Word(3, [1, 2, 1]), Word(3, [2, 2, 1]), ("moves", [["in", 0]])))

    def test_great_inputs(self):
        # Lines, not seconds: about ten million lines are run in a second.
        for letters in list(long_letters(6))[-4:]:
            one, other = Word(6, letters), Word(6, wandered(6, letters, 30))
            far = Word(6, tuple(1 + k * 5 % 6 for k in range(40)))
            self.assertLess(lines_run(lambda: alike(one, other)), 20000)
            self.assertLess(lines_run(lambda: paper(one, other)), 100000)
            self.assertLess(lines_run(lambda: paper(one, far)), 100000)
        self.assertEqual(moves_of(one), moves_of(Word(6, letters)))
        one, other = House(3, (34, 4)).top().reading(), House(3, (36, 4)).top().reading()
        self.assertLess(lines_run(lambda: parting(one, other)), 2000000)
        self.assertEqual(len(parting(one, other)), 31)


if __name__ == "__main__":
    unittest.main()
