import unittest

from liftwords.errors import BadShape, OtherSize, TooGreat
from liftwords.houses import House, joined_tops, multiplicity
from liftwords.tables import Table
from liftwords.words import Word
from tests.plain import OTHER_KINDS, SIZES, THOUSAND_DIGITS, plain_spare, refusal
from tests.plain_tables import plain_count, plain_house, plain_is_top, plain_joined, plain_reading, plain_shapes

# How many letters the two houses of a small pair have at most.
PAIRS = {2: (6, 6), 3: (5, 4), 4: (4, 3), 5: (3, 3), 6: (3, 2)}


def small_pairs(size):
    """Pairs of shapes of small houses."""
    for shape in plain_shapes(size, PAIRS[size][0]):
        for behind in plain_shapes(size, PAIRS[size][1]):
            yield shape, behind


def slow_multiplicity(size, shape, behind, told):
    """How many tables of a house of few thousand tables make a top of a shape, by a look at each of them."""
    return len([table for table in House(size, shape).tables()
                if plain_is_top(size, table.reading().letters + House(size, behind).top().reading().letters)
                and tuple(filter(None, (table.reading() + House(size, behind).top().reading()).counts())) == told])


class JoinedTops(unittest.TestCase):

    def test_example(self):
        told = joined_tops(House(3, (2, 1)), House(3, (2, 1)))
        self.assertEqual(list(told), [(2, 2, 2), (3, 2, 1), (3, 3), (4, 1, 1), (4, 2)])
        self.assertEqual(told[3, 2, 1], (Table(3, [[1, 3], [2]]), Table(3, [[1, 2], [3]])))
        self.assertEqual(told[4, 2], (Table(3, [[1, 1], [2]]),))

    def test_against_a_look_at_all_tables(self):
        for size in SIZES:
            for shape, behind in small_pairs(size):
                one, other = House(size, shape), House(size, behind)
                told = joined_tops(one, other)
                wanted = plain_joined(size, shape, behind)
                self.assertIs(type(told), dict)
                self.assertEqual(list(told), sorted(wanted))
                for key, found in told.items():
                    self.assertIs(type(found), tuple)
                    self.assertEqual(found, tuple(Table(size, rows) for rows in wanted[key]))
                self.assertEqual((one, other), (House(size, shape), House(size, behind)))

    def test_the_fact(self):
        # [27]: how many i + 1 are left over in the first reading tells whether the top behind makes a top.
        for size in SIZES:
            for shape, behind in list(small_pairs(size))[::3]:
                lengths = behind + (0,) * (size - len(behind))
                tops = [table.rows for found in joined_tops(House(size, shape), House(size, behind)).values()
                        for table in found]
                for rows in plain_house(size, shape):
                    fits = all(len(plain_spare(plain_reading(rows), i)[1]) <= lengths[i - 1] - lengths[i]
                               for i in range(1, size))
                    self.assertIs(rows in tops, fits)

    def test_results_are_new(self):
        one, other = House(3, (2, 1)), House(3, (1,))
        told = joined_tops(one, other)
        told.clear()
        self.assertEqual(list(joined_tops(one, other)), [(2, 1, 1), (2, 2), (3, 1)])

    def test_without_letters(self):
        for size in SIZES:
            none, some = House(size, ()), House(size, (2, 1))
            self.assertEqual(joined_tops(none, none), {(): (Table(size, []),)})
            self.assertEqual(joined_tops(none, some), {(2, 1): (Table(size, []),)})
            self.assertEqual(joined_tops(some, none), {(2, 1): (some.top(),)})

    def test_refusals(self):
        small, great = House(3, (2, 1)), House(3, (31, 6))
        refusal(self, OtherSize, joined_tops, small, House(4, (2, 1)))
        refusal(self, OtherSize, joined_tops, House(6, (40,)), House(5, (40,)))
        refusal(self, OtherSize, joined_tops, House(4, ()), House(3, ()))
        self.assertEqual(refusal(self, TooGreat, joined_tops, small, House(3, (38,))).most, 40)
        self.assertEqual(refusal(self, TooGreat, joined_tops, House(3, (38,)), small).most, 40)
        self.assertEqual(refusal(self, TooGreat, joined_tops, great, House(3, (4,))).most, 40)
        self.assertEqual(refusal(self, TooGreat, joined_tops, great, House(3, (2, 1))).most, 3000)
        self.assertEqual(refusal(self, TooGreat, joined_tops, House(6, (10,)), House(6, ())).most, 3000)

    def test_just_not_too_great(self):
        # The house behind is never listed.
        told = joined_tops(House(3, (2, 1)), House(3, (31, 6)))
        self.assertEqual(sum(len(found) for found in told.values()), 8)
        self.assertEqual(list(joined_tops(House(3, (3,)), House(3, (37,)))), [(37, 3), (38, 2), (39, 1), (40,)])
        # 3,000 tables, and 40 letters together.
        told = joined_tops(House(3, (28, 9)), House(3, (2, 1)))
        for shape, found in told.items():
            self.assertEqual(sum(shape), 40)
            self.assertEqual(len(found), slow_multiplicity(3, (28, 9), (2, 1), shape))

    def test_by_names(self):
        one, other = House(3, (2, 1)), House(3, (1,))
        self.assertEqual(joined_tops(behind=other, house=one), joined_tops(one, other))
        self.assertEqual(multiplicity(shape=(3, 1), behind=other, house=one), 1)


class Multiplicity(unittest.TestCase):

    def test_examples(self):
        one = House(3, (2, 1))
        self.assertEqual(multiplicity(one, one, (3, 2, 1)), 2)
        self.assertEqual(multiplicity(one, one, [3, 3]), 1)
        self.assertEqual(multiplicity(one, one, (6,)), 0)
        self.assertEqual(multiplicity(one, one, (5, 1)), 0)
        self.assertEqual(multiplicity(one, one, ()), 0)

    def test_against_a_look_at_all_tables(self):
        for size in SIZES:
            for shape, behind in small_pairs(size):
                one, other = House(size, shape), House(size, behind)
                wanted = plain_joined(size, shape, behind)
                for told in plain_shapes(size, sum(shape) + sum(behind)):
                    many = len(wanted.get(told, ()))
                    self.assertEqual(multiplicity(one, other, told), many)
                    self.assertEqual(multiplicity(other, one, list(told)), many)

    def test_houses_that_are_listed(self):
        for size, shape, behind in ((3, (6, 3), (5, 2)), (3, (6, 3, 1), (8, 4, 2)), (4, (4, 2, 1), (3, 2, 1)),
                                    (4, (6, 4, 1), (7, 5, 3)), (5, (3, 2, 1), (4, 2, 1, 1)), (6, (3, 2, 1), (3, 2, 1)),
                                    (6, (2, 2, 1, 1), (5, 4, 3, 2, 1))):
            one, other = House(size, shape), House(size, behind)
            told = joined_tops(one, other)
            for key, found in told.items():
                self.assertEqual(multiplicity(one, other, key), len(found))
                self.assertEqual(multiplicity(other, one, key), len(found))
            for key in (key for key in plain_shapes(size, sum(shape) + sum(behind)) if key not in told):
                self.assertEqual(multiplicity(one, other, key), 0)

    def test_all_words_are_in_some_house(self):
        # By [26] and [27] the houses of all tops have as many tables as there are pairs of tables.
        for size, shape, behind in ((2, (20, 5), (10, 3)), (3, (9, 4, 1), (7, 5)), (4, (7, 4, 2), (6, 5, 1)),
                                    (5, (4, 3, 2, 1), (4, 2, 2)), (6, (4, 3, 2, 1), (3, 2, 1, 1))):
            one, other = House(size, shape), House(size, behind)
            total = sum(multiplicity(one, other, told) * plain_count(size, told)
                        for told in plain_shapes(size, sum(shape) + sum(behind))
                        if sum(told) == sum(shape) + sum(behind))
            self.assertEqual(total, plain_count(size, shape) * plain_count(size, behind))

    def test_great_houses(self):
        # Known ones: as the shape (size - 1, .., 1) doubled has in itself, and what two rows have in common.
        stairs = House(6, (5, 4, 3, 2, 1))
        self.assertEqual(multiplicity(stairs, stairs, (10, 8, 6, 4, 2)), 1)
        self.assertEqual(multiplicity(House(6, (20,)), House(6, (20,)), (20, 20)), 1)
        self.assertEqual(multiplicity(House(6, (20,)), House(6, (20,)), (33, 7)), 1)
        self.assertEqual(multiplicity(House(6, (20,)), House(6, (20,)), (33, 6, 1)), 0)
        # For a one-rowed house: 1 if the places that are added stand in different columns.
        wide = House(6, (9, 7, 5, 3, 1))
        for told in ((15, 9, 7, 5, 3, 1), (14, 9, 7, 5, 3, 2), (13, 9, 7, 5, 3, 3), (24, 7, 5, 3, 1), (10, 10, 8, 6, 4, 2),
                     (16, 8, 6, 4, 3, 3), (16, 9, 8, 4, 2, 1), (17, 8, 6, 5, 3, 1), (18, 9, 7, 3, 2, 1)):
            lengths = told + (0,) * (6 - len(told))
            base = (9, 7, 5, 3, 1, 0)
            strip = all(lengths[k] >= base[k] for k in range(6)) and all(lengths[k + 1] <= base[k] for k in range(5))
            for row, want in ((15, strip), (14, False)):
                self.assertEqual(multiplicity(wide, House(6, (row,)), told), int(want))
                self.assertEqual(multiplicity(House(6, (row,)), wide, told), int(want))

    def test_exchanged_great_houses(self):
        for size, shape, behind, told in ((6, (6, 5, 4, 3, 2), (6, 5, 4, 3, 2), (10, 9, 7, 6, 5, 3)),
                                          (6, (7, 5, 4, 2, 1), (6, 5, 4, 3, 2, 1), (11, 9, 8, 6, 4, 2)),
                                          (5, (9, 6, 4, 1), (8, 7, 3, 2), (14, 11, 8, 5, 2)),
                                          (4, (11, 6, 2), (10, 8, 3), (17, 12, 8, 3))):
            one, other = House(size, shape), House(size, behind)
            many = multiplicity(one, other, told)
            self.assertGreater(many, 0)
            self.assertEqual(multiplicity(other, one, told), many)
            self.assertEqual(signed(size, shape, behind, told), many)
            self.assertEqual(signed(size, behind, shape, told), many)

    def test_refusals(self):
        small = House(3, (2, 1))
        refusal(self, OtherSize, multiplicity, small, House(4, (2, 1)), (3, 2, 1))
        refusal(self, OtherSize, multiplicity, small, House(4, (38,)), None)
        for shape in ((4, 2), None, (1, 2), (41,)):
            self.assertEqual(refusal(self, TooGreat, multiplicity, small, House(3, (38,)), shape).most, 40)
            self.assertEqual(refusal(self, TooGreat, multiplicity, House(3, (38,)), small, shape).most, 40)
        for shape in (*[value for value in OTHER_KINDS if not isinstance(value, (list, tuple))], (1, 2), [0], (3, 0),
                      [1] * 4, (3, 1, 1, 1), [True], (3, True), (41,), [-1], THOUSAND_DIGITS, [THOUSAND_DIGITS],
                      ((2, 1),), Word(3, [1]), small, range(1), (20, 21), (21, 20), ["3"], [None]):
            with self.subTest(shape=shape):
                self.assertIs(refusal(self, BadShape, multiplicity, small, small, shape).value, shape)

    def test_forty_letters(self):
        self.assertEqual(multiplicity(House(3, (2, 1)), House(3, (31, 6)), (33, 7)), 1)
        self.assertEqual(multiplicity(House(3, (2, 1)), House(3, (31, 6)), (32, 7, 1)), 2)

    def test_what_was_passed_stays(self):
        one, other, shape = House(3, (2, 1)), House(3, (3, 1)), [4, 2, 1]
        self.assertEqual(multiplicity(one, other, shape), multiplicity(one, other, shape))
        self.assertEqual((one, other, shape), (House(3, (2, 1)), House(3, (3, 1)), [4, 2, 1]))


def signed(size, shape, behind, told):
    """The multiplicity in another way: a sum with signs over all orders of the shape that is told.

    In the words of [45]: the bag of the house, at what is left of the shape when the house behind is taken away.
    """
    lengths = told + (0,) * (size - len(told))
    less = behind + (0,) * (size - len(behind))
    house = House(size, shape)
    found = {(): 1}
    for k in range(size):
        found = {chosen + (j,): sign * (-1) ** len([i for i in chosen if i > j])
                 for chosen, sign in found.items() for j in range(size) if j not in chosen}
    total = 0
    for order, sign in found.items():
        counts = tuple(lengths[order[k]] - order[k] + k - less[k] for k in range(size))
        if min(counts) >= 0:
            total += sign * house.how_many(counts)
    return total


if __name__ == "__main__":
    unittest.main()
