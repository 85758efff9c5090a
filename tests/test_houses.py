import inspect
import unittest
from itertools import product

from liftwords import houses
from liftwords.deeds import bottom_of, run, to_top, top_of
from liftwords.errors import BadNumber, BadShape, BadSize, OtherHouse, TooGreat
from liftwords.houses import House, house_of
from liftwords.tables import Table, bumped
from liftwords.words import Word
from tests.plain import OTHER_KINDS, SIZES, THOUSAND_DIGITS, plain_deed, refusal, samples
from tests.plain_tables import (SMALL, plain_count, plain_counts, plain_house, plain_is_top, plain_kostka,
                                plain_order, plain_reading, plain_shapes, plain_table, plain_top)

# Houses of 3,000 tables, the most that are listed, and of a few more.
JUST_LISTED = ((3, (28, 9)), (3, (29, 10, 1)))
NOT_LISTED = ((6, (10,)), (3, (31, 6)), (5, (5, 4, 1)))
GREAT = ((6, (10, 9, 8, 7, 4, 2)), (6, (15, 10, 8, 5, 2)), (6, (12, 9, 7, 6, 4, 2)), (6, (40,)), (6, (20, 20)),
         (5, (16, 11, 7, 4, 2)), (4, (22, 12, 6)), (3, (27, 13)), (2, (40,)), (2, (25, 15)), (6, (7, 7, 7, 7, 6, 6)))


def small_shapes(size):
    return plain_shapes(size, SMALL[size] + 1 if size < 6 else SMALL[size])


def no_shapes(size):
    """Values that are no shapes of a size."""
    many = [1] * (size + 1)
    kinds = [value for value in OTHER_KINDS if not isinstance(value, (list, tuple))]
    return (*kinds, range(1), iter([]), {1}, {2: 1}, Word(3, [1]), Table(3, [[1]]), House(3, [1]),
            THOUSAND_DIGITS, many, tuple(many), [2] * (size + 1), [0], (0,), [1, 0], [2, 1, 0], [-1], [1, -1],
            [1, 2], (2, 3), [True], (True,), [2, True], [2, False], [None], ["1"], [[1]], [(1,)], ((2, 1),), [2, None],
            [2, "1"], [2, {}], [41], (41,), [40, 1], [21, 20], [20, 21], [THOUSAND_DIGITS], [-THOUSAND_DIGITS],
            [THOUSAND_DIGITS, 1], [1, THOUSAND_DIGITS], [0] * 1000, [1] * 41, [39, 2])


class Making(unittest.TestCase):

    def test_where_they_stand(self):
        for name in ("House", "house_of", "joined_tops", "multiplicity"):
            self.assertEqual(getattr(houses, name).__module__, "liftwords.houses")
        for name in ("count", "top", "bottom", "number_of", "table_at", "tables", "how_many", "rank", "between",
                     "__contains__", "__eq__"):
            self.assertIn(name, vars(House))
        self.assertEqual(houses.MOST_TABLES, 3000)

    def test_fields(self):
        for size in SIZES:
            for shape in (*plain_shapes(size, 6), (40,), (20, 20), (39, 1), (40 // size,) * size):
                for given in (shape, list(shape)):
                    house = House(size, given)
                    self.assertEqual((house.size, house.shape), (size, shape))
                    self.assertIs(type(house.shape), tuple)

    def test_later_changes(self):
        shape = [2, 1]
        house = House(3, shape)
        shape.append(1)
        shape[0] = 5
        self.assertEqual(house.shape, (2, 1))
        self.assertEqual(house.count(), 8)

    def test_no_size(self):
        for size in (*OTHER_KINDS, 0, 1, 7, -2, THOUSAND_DIGITS):
            for shape in ([], (2, 1), None, [1, 2], [41], [1] * 9):
                self.assertIs(refusal(self, BadSize, House, size, shape).value, size)

    def test_no_shape(self):
        for size in SIZES:
            for shape in no_shapes(size):
                with self.subTest(size=size, shape=shape):
                    self.assertIs(refusal(self, BadShape, House, size, shape).value, shape)
            for shape in ([1] * size, [40], [20, 20], [6] * size):
                self.assertEqual(House(size, shape).shape, tuple(shape))

    def test_equal(self):
        house = House(3, [2, 1])
        for other in (House(3, (2, 1)), house):
            self.assertIs(house == other, True)
            self.assertIs(house != other, False)
        for other in (House(4, [2, 1]), House(3, [2]), House(3, [2, 2]), House(3, []), (2, 1), [2, 1], None, 3,
                      Table(3, [[1, 1], [2]]), Word(3, [2, 1, 1]), *OTHER_KINDS):
            self.assertIs(house == other, False)
            self.assertIs(house != other, True)
            self.assertIs(other == house, False)
        self.assertIs(House(2, []) == House(3, []), False)

    def test_in(self):
        house = House(3, [2, 1])
        for table in (Table(3, [[1, 1], [2]]), Table(3, [[2, 3], [3]]), house.top(), house.bottom()):
            self.assertIs(table in house, True)
            self.assertIs(table not in house, False)
        for value in (Table(4, [[1, 1], [2]]), Table(3, [[1, 1], [2], [3]]), Table(3, [[1, 1, 2]]), Table(3, []),
                      Table(3, [[1], [2]]), Word(3, [2, 1, 1]), house, ((1, 1), (2,)), [[1, 1], [2]], (2, 1),
                      *OTHER_KINDS, THOUSAND_DIGITS):
            self.assertIs(value in house, False)
            self.assertIs(value not in house, True)

    def test_operators_that_are_not_described(self):
        house = House(3, [2, 1])
        for call in (lambda: house + house, lambda: house * 2, lambda: house < house, lambda: len(house),
                     lambda: house[0], lambda: list(house), lambda: -house, lambda: Word(3, [1]) + house,
                     lambda: house.top() + house):
            with self.assertRaises(TypeError):
                call()

    def test_by_names(self):
        house = House(shape=[2, 1], size=3)
        table = Table(3, [[1, 2], [2]])
        self.assertEqual(house, House(3, [2, 1]))
        self.assertEqual(house.number_of(table=table), house.number_of(table))
        self.assertEqual(house.table_at(number=3), house.table_at(3))
        self.assertEqual(house.how_many(counts=(1, 1, 1)), 2)
        self.assertEqual(house.rank(table=table), 1)
        self.assertEqual(house.between(goal=table, start=house.top()), (1,))
        self.assertEqual(house_of(word=Word(3, [2, 1])), House(3, [1, 1]))


class Counting(unittest.TestCase):

    def test_examples(self):
        self.assertEqual(House(3, (2, 1)).count(), 8)
        self.assertEqual(House(2, (3,)).count(), 4)
        self.assertEqual(House(6, ()).count(), 1)
        self.assertEqual(House(6, (40,)).count(), 1221759)
        self.assertEqual([table.rows for table in House(3, (1, 1)).tables()], [((2,), (3,)), ((1,), (3,)), ((1,), (2,))])
        self.assertEqual(House(3, (2, 1)).top().rows, ((1, 1), (2,)))
        self.assertEqual(House(3, (2, 1)).bottom().rows, ((2, 3), (3,)))

    def test_count(self):
        for size in SIZES:
            for shape in plain_shapes(size, 12):
                self.assertEqual(House(size, shape).count(), plain_count(size, shape))
        for size, shape in (*GREAT, *JUST_LISTED, *NOT_LISTED):
            self.assertEqual(House(size, shape).count(), plain_count(size, shape))

    def test_top_and_bottom(self):
        for size in SIZES:
            for shape in plain_shapes(size, 12):
                house = House(size, shape)
                self.assertEqual(house.top(), Table(size, plain_top(shape)))
                bottom = house.bottom()
                self.assertEqual((bottom.size, bottom.shape), (size, shape))
                letters = plain_reading(bottom.rows)
                self.assertTrue(all(plain_deed(letters, i) is None for i in range(1, size)))

    def test_tables_in_their_order(self):
        for size in SIZES:
            for shape in small_shapes(size):
                house = House(size, shape)
                wanted = plain_house(size, shape)
                self.assertEqual(len(wanted), house.count())
                told = list(house.tables())
                self.assertEqual([table.rows for table in told], wanted)
                self.assertEqual(told, list(house.tables()))
                for number, table in enumerate(told):
                    self.assertEqual(table, Table(size, wanted[number]))
                    self.assertEqual(house.number_of(table), number)
                    self.assertEqual(house.table_at(number), table)
                    self.assertIs(table in house, True)
                # The only top and the only bottom.
                tops = [rows for rows in wanted if plain_is_top(size, plain_reading(rows))]
                self.assertEqual(tops, [house.top().rows])
                self.assertEqual(tops, [plain_top(shape)])

    def test_numbers_in_houses_that_are_listed(self):
        for size, shape in (*JUST_LISTED, (6, (4, 2, 1)), (4, (12, 5, 5, 1)), (6, (6, 5, 5, 5, 5, 5))):
            house = House(size, shape)
            told = list(house.tables())
            self.assertEqual(len(told), house.count())
            keys = [plain_order(size, table.rows) for table in told]
            self.assertTrue(all(keys[k] < keys[k + 1] for k in range(len(keys) - 1)))
            for number in (*range(0, len(told), 171), len(told) - 1):
                self.assertEqual(house.number_of(told[number]), number)
                self.assertEqual(house.table_at(number), told[number])

    def test_numbers_in_great_houses(self):
        for size, shape in (*GREAT, *NOT_LISTED):
            house = House(size, shape)
            count = house.count()
            self.assertEqual(house.table_at(0), house.bottom())
            self.assertEqual(house.table_at(count - 1), house.top())
            self.assertEqual(house.number_of(house.bottom()), 0)
            self.assertEqual(house.number_of(house.top()), count - 1)
            before = None
            for number in sorted({0, 1, count // 7, count // 3, count // 3 + 1, count // 2, count - 2, count - 1}):
                if not 0 <= number < count:
                    continue
                table = house.table_at(number)
                self.assertIn(table, house)
                self.assertEqual(house.number_of(table), number)
                key = plain_order(size, table.rows)
                self.assertTrue(before is None or before < key)
                before = key

    def test_no_numbers(self):
        for size, shape in ((3, (2, 1)), (6, ()), (6, (10, 9, 8, 7, 4, 2))):
            house = House(size, shape)
            for number in (*OTHER_KINDS, -1, -2, house.count(), house.count() + 1, THOUSAND_DIGITS, -THOUSAND_DIGITS):
                self.assertIs(refusal(self, BadNumber, house.table_at, number).value, number)

    def test_tables_of_other_houses(self):
        house = House(3, (2, 1))
        own = house.top()
        for table in (Table(4, [[1, 1], [2]]), Table(3, [[1, 1]]), Table(3, []), Table(3, [[1, 1], [2], [3]]),
                      Table(3, [[1], [2]]), Table(3, [[1, 1, 2]])):
            refusal(self, OtherHouse, house.number_of, table)
            refusal(self, OtherHouse, house.rank, table)
            refusal(self, OtherHouse, house.between, table, own)
            refusal(self, OtherHouse, house.between, own, table)
            refusal(self, OtherHouse, house.between, table, table)
            for size, shape in NOT_LISTED:
                great = House(size, shape)
                refusal(self, OtherHouse, great.between, table, great.top())
                refusal(self, OtherHouse, great.between, great.top(), table)

    def test_a_generator(self):
        self.assertTrue(inspect.isgenerator(House(3, (2, 1)).tables()))
        self.assertEqual(list(House(4, ()).tables()), [Table(4, [])])

    def test_the_most_that_are_listed(self):
        for size, shape in JUST_LISTED:
            self.assertEqual(len(list(House(size, shape).tables())), 3000)
        for size, shape in (*NOT_LISTED, (6, (10, 9, 8, 7, 4, 2))):
            told = House(size, shape).tables()
            self.assertEqual(refusal(self, TooGreat, next, told).most, 3000)

    def test_how_many_in_small_houses(self):
        for size in SIZES:
            for shape in small_shapes(size):
                house = House(size, shape)
                wanted = {}
                for rows in plain_house(size, shape):
                    counts = plain_counts(size, plain_reading(rows))
                    wanted[counts] = wanted.get(counts, 0) + 1
                many = sum(shape)
                for counts in product(range(min(many, 4) + 2), repeat=size):
                    if sum(counts) == many or sum(counts) in (0, many + 1) or counts in wanted:
                        self.assertEqual(house.how_many(counts), wanted.get(counts, 0))
                        self.assertEqual(house.how_many(list(counts)), wanted.get(counts, 0))
                for counts in wanted:
                    self.assertEqual(house.how_many(counts), wanted[counts])

    def test_how_many_in_great_houses(self):
        for size, shape in GREAT:
            house = House(size, shape)
            lengths = shape + (0,) * (size - len(shape))
            even = tuple(sum(shape) // size + (k < sum(shape) % size) for k in range(size))
            slope = tuple(lengths[k] + (k == size - 1) - (k == 0) for k in range(size))
            mixed = lengths[1::2] + lengths[::2]
            for counts in (lengths, lengths[::-1], even, even[::-1], slope, slope[::-1], mixed):
                self.assertEqual(house.how_many(counts), plain_kostka(lengths, counts))
            self.assertEqual(house.how_many(lengths), 1)
            self.assertEqual(house.how_many(mixed), 1)

    def test_how_many_with_another_sum(self):
        house = House(3, (2, 1))
        for counts in ((0, 0, 0), (1, 1, 0), (2, 2, 0), (3, 1, 1), (THOUSAND_DIGITS, 0, 0), (3, 0, THOUSAND_DIGITS)):
            self.assertEqual(house.how_many(counts), 0)
        for counts in ((3, 0, 0), (0, 3, 0), (0, 0, 3)):
            self.assertEqual(house.how_many(counts), 0)
        self.assertEqual(House(3, ()).how_many((0, 0, 0)), 1)
        self.assertEqual(House(3, ()).how_many((1, 0, 0)), 0)

    def test_no_counts(self):
        house = House(3, (2, 1))
        for counts in (None, True, 0, 3, "", "111", b"111", {}, {1: 1, 2: 1, 3: 1}, {1, 2, 0}, range(3), object(), iter([]),
                       Word(3, [1, 1, 1]), (), [], (1, 2), [2, 1], (1, 1, 1, 0), [0] * 4, (1, 1, True), (True, 1, 1),
                       [False, 2, 1], (3, 0, False), (1, 1, None), (1, 1, "1"), (1, 1, (1,)), (-1, 2, 2), (4, -1, 0),
                       (2, 2, -1), (1, 1, -THOUSAND_DIGITS), THOUSAND_DIGITS):
            with self.subTest(counts=counts):
                self.assertIs(refusal(self, BadNumber, house.how_many, counts).value, counts)


def plain_ways(letters, size, goal=None):
    """By searching, how many deeds lead to each word that can be reached, or to the goal."""
    far = {letters: 0}
    waiting = [letters]
    for letters in waiting:
        if letters == goal:
            break
        for deed in (*range(1, size), *range(1 - size, 0)):
            after = plain_deed(letters, deed)
            if after is not None and after not in far:
                far[after] = far[letters] + 1
                waiting.append(after)
    return far


class Ways(unittest.TestCase):

    def test_rank(self):
        for size in SIZES:
            for shape in small_shapes(size):
                house = House(size, shape)
                for table in house.tables():
                    letters, downs = plain_reading(table.rows), 0
                    while not plain_is_top(size, letters):
                        letters = next(filter(None, (plain_deed(letters, -i) for i in range(1, size))))
                        downs += 1
                    self.assertEqual(house.rank(table), downs)
                    self.assertEqual(letters, plain_reading(house.top().rows))

    def test_rank_in_great_houses(self):
        for size, shape in GREAT:
            house = House(size, shape)
            self.assertEqual(house.rank(house.top()), 0)
            for number in (0, house.count() // 3, house.count() * 3 // 4):
                table = house.table_at(number)
                self.assertEqual(house.rank(table), len(to_top(table.reading())))

    def test_between_each_two_tables(self):
        for size, shapes in ((2, [(), (1,), (4,), (3, 2), (2, 2)]), (3, [(2, 1), (3,), (2, 2), (3, 2, 1), (1, 1, 1)]),
                             (4, [(2, 1), (1, 1), (2, 1, 1)]), (5, [(1, 1), (2,)]), (6, [(1,), (1, 1)])):
            for shape in shapes:
                house = House(size, shape)
                listed = list(house.tables())
                for start in listed:
                    far = plain_ways(plain_reading(start.rows), size)
                    # [26]: each table of the house is reached, and no other one.
                    self.assertEqual(set(far), {plain_reading(table.rows) for table in listed})
                    for goal in listed:
                        self.leads(house, start, goal, far[plain_reading(goal.rows)])

    def leads(self, house, start, goal, length):
        row = house.between(start, goal)
        self.assertIs(type(row), tuple)
        self.assertEqual(len(row), length)
        letters = plain_reading(start.rows)
        for deed in row:
            self.assertIs(type(deed), int)
            letters = plain_deed(letters, deed)
        self.assertEqual(letters, plain_reading(goal.rows))
        self.assertEqual(house.between(start, goal), row)

    def test_between_in_greater_houses(self):
        for size, shape, ends in ((6, (3, 2, 1), ((0, 5), (17, 800))), (4, (8, 5, 2), ((0, 60), (500, 10))),
                                  (3, (28, 9), ((0, 12),)), (6, (7, 7, 7, 7, 6, 6), ((0, 14), (3, 7)))):
            house = House(size, shape)
            for one, other in ends:
                start, goal = house.table_at(one), house.table_at(other)
                far = plain_ways(plain_reading(start.rows), size, plain_reading(goal.rows))
                self.leads(house, start, goal, far[plain_reading(goal.rows)])

    def test_between_the_ends(self):
        for size, shape in (*JUST_LISTED, (6, (4, 2, 1)), (5, (10, 10, 10, 9, 1))):
            house = House(size, shape)
            self.leads(house, house.top(), house.bottom(), house.rank(house.bottom()))
            self.leads(house, house.bottom(), house.top(), house.rank(house.bottom()))
            self.assertEqual(house.between(house.bottom(), house.bottom()), ())

    def test_between_in_houses_that_are_too_great(self):
        for size, shape in (*NOT_LISTED, (6, (10, 9, 8, 7, 4, 2))):
            house = House(size, shape)
            for start, goal in ((house.top(), house.bottom()), (house.top(), house.top())):
                self.assertEqual(refusal(self, TooGreat, house.between, start, goal).most, 3000)

    def test_deeds_stay_in_the_house(self):
        for size in SIZES:
            for letters in list(samples(size))[::9]:
                word = Word(size, letters)
                house = house_of(word)
                self.assertEqual(house, House(size, [len(row) for row in plain_table(letters)[0]]))
                self.assertEqual(bumped(top_of(word)), house.top())
                self.assertEqual(bumped(bottom_of(word)), house.bottom())
                self.assertEqual(house.rank(bumped(word)), len(to_top(word)))

    def test_house_of(self):
        self.assertEqual(house_of(Word(3, [2, 1, 3, 1])), House(3, (2, 2)))
        self.assertEqual(house_of(Word(5, [])), House(5, ()))
        self.assertEqual(house_of(Word(2, [1] * 40)), House(2, (40,)))

    def test_between_can_be_done_on_words(self):
        word = Word(4, [4, 2, 3, 1, 4, 1])
        house = house_of(word)
        goal = house.table_at(5)
        self.assertEqual(bumped(run(word, house.between(bumped(word), goal))), goal)


if __name__ == "__main__":
    unittest.main()
