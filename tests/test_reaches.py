import inspect
import unittest

from liftwords import reaches
from liftwords.errors import BadRow, BadSize, OtherHouse, TooGreat
from liftwords.houses import House
from liftwords.mirrors import growth_of
from liftwords.reaches import Reach, parting_shape, rows_agree
from liftwords.tables import Table
from liftwords.words import Word
from tests.plain import OTHER_KINDS, SIZES, THOUSAND_DIGITS, lines_run, plain_deed, refusal
from tests.plain_alike import plain_cut, plain_far_end, plain_order_of, plain_reach
from tests.plain_tables import plain_house, plain_reading, plain_shapes, plain_top
from tests.test_mirrors import check_rows, short_rows

GREAT = ((6, (10, 9, 8, 7, 4, 2)), (6, (15, 10, 8, 5, 2)), (6, (40,)), (6, (20, 20)), (6, (8, 8, 8, 8, 8)),
         (5, (16, 11, 7, 4, 2)), (4, (22, 12, 6)), (3, (27, 13)), (6, (14, 14, 6, 6)))
# How long the rows are of which all are taken, and the most letters of the shapes.
SMALL_ROWS = {2: (3, 6), 3: (5, 5), 4: (4, 4), 5: (3, 3), 6: (2, 3)}


def small_reaches(size):
    """Shapes of small houses and rows of indexes: all of them."""
    length, most = SMALL_ROWS[size]
    for shape in plain_shapes(size, most):
        for row in short_rows(size, length):
            yield shape, row


def long_rows(size, many=6):
    """Rows of up to 40 indexes, the same ones each time."""
    for turn in range(many):
        yield tuple(1 + (turn * k + k * k // 2 + turn) % (size - 1) for k in range((turn * 13 + 40) % 41))
    yield tuple(1 + k % (size - 1) for k in range(40))


def plain_ends(size, shape, row):
    """The counts of the far end, as [53] tells them."""
    numbers = list(shape) + [0] * (size - len(shape))
    for i in row:
        if numbers[i - 1] > numbers[i]:
            numbers[i - 1], numbers[i] = numbers[i], numbers[i - 1]
    return tuple(numbers)


def least_rows(size, told):
    """By what is told of rows, the least of the shortest rows of which it is told."""
    found = {told(()): ()}
    level = [()]
    while level:
        further = []
        for row in level:
            for i in range(1, size):
                if told(row + (i,)) not in found:
                    found[told(row + (i,))] = row + (i,)
                    further.append(row + (i,))
        level = further
    return found


class Making(unittest.TestCase):

    def test_where_they_stand(self):
        for name in ("Reach", "rows_agree", "parting_shape"):
            self.assertEqual(getattr(reaches, name).__module__, "liftwords.reaches")
        for name in ("far_end", "has", "path", "rest", "count", "each", "least_row", "within", "parted", "__eq__"):
            self.assertIn(name, vars(Reach))

    def test_fields(self):
        for size in SIZES:
            house = House(size, [2, 1])
            for row in ((), (1,), (size - 1, 1), (1,) * 40):
                for given in (row, list(row)):
                    reach = Reach(house, given)
                    self.assertIs(reach.house, house)
                    self.assertIs(type(reach.row), tuple)
                    self.assertEqual(reach.row, row)

    def test_later_changes(self):
        row = [1, 2]
        reach = Reach(House(3, [2, 1]), row)
        row[0] = 2
        row.append(7)
        self.assertEqual(reach.row, (1, 2))
        self.assertEqual(reach.count(), 5)
        self.assertEqual(reach, Reach(House(3, [2, 1]), [1, 2]))

    def test_no_rows(self):
        for size in SIZES:
            check_rows(self, lambda row: Reach(House(size, [2, 1]), row), size)

    def test_operators_that_are_not_described(self):
        reach = Reach(House(3, [2, 1]), [1])
        for call in (lambda: reach + reach, lambda: reach < reach, lambda: len(reach), lambda: reach[0],
                     lambda: list(reach), lambda: reach * 2, lambda: reach <= reach, lambda: reach - reach,
                     lambda: reach.house.top() in reach):
            self.assertRaises(TypeError, call)


class Tables(unittest.TestCase):

    def test_examples(self):
        reach = Reach(House(3, [2, 1]), [1, 2])
        self.assertEqual([table.rows for table in reach.each()],
                         [((1, 3), (3,)), ((1, 3), (2,)), ((1, 1), (3,)), ((1, 2), (2,)), ((1, 1), (2,))])
        self.assertEqual(reach.count(), 5)
        self.assertEqual(reach.far_end().rows, ((1, 3), (3,)))
        self.assertEqual(reach.path(Table(3, [[1, 3], [2]])), (1, 1))
        self.assertEqual(reach.rest(Table(3, [[1, 2], [3]])), Table(3, [[1, 1], [3]]))
        self.assertEqual(Reach(House(3, [1, 1]), [1, 2]).least_row(), (2,))

    def test_each_and_count(self):
        for size in SIZES:
            for shape, row in small_reaches(size):
                reach = Reach(House(size, shape), row)
                wanted = plain_reach(shape, row)
                told = list(reach.each())
                self.assertEqual([table.rows for table in told],
                                 [rows for rows in plain_house(size, shape) if rows in wanted])
                for table in told:
                    self.assertIs(type(table), Table)
                    self.assertEqual(table.size, size)
                self.assertEqual(reach.count(), len(wanted))

    def test_far_end(self):
        for size in SIZES:
            for shape, row in small_reaches(size):
                end = Reach(House(size, shape), row).far_end()
                self.assertEqual(end, Table(size, plain_far_end(shape, row)))
                self.assertEqual(end.counts(), plain_ends(size, shape, row))

    def test_has_path_and_rest(self):
        for size in SIZES:
            for shape, row in small_reaches(size):
                reach = Reach(House(size, shape), row)
                wanted = plain_reach(shape, row)
                for rows in plain_house(size, shape):
                    self.looks(reach, rows, rows in wanted)

    def looks(self, reach, rows, wanted):
        table = Table(reach.house.size, rows)
        numbers = []
        letters = plain_reading(rows)
        for i in reversed(reach.row):
            times = 0
            while plain_deed(letters, -i) is not None:
                letters = plain_deed(letters, -i)
                times += 1
            numbers.insert(0, times)
        self.assertIs(reach.has(table), wanted)
        self.assertEqual(reach.rest(table), Table(table.size, plain_cut(letters, table.shape)))
        self.assertIs(reach.rest(table) == reach.house.top(), wanted)
        self.assertEqual(reach.path(table), tuple(numbers) if wanted else None)
        if wanted:
            self.assertIs(type(reach.path(table)), tuple)
            again = plain_reading(plain_top(table.shape))
            for i, times in zip(reach.row, reach.path(table)):
                for _ in range(times):
                    again = plain_deed(again, i)
            self.assertEqual(again, plain_reading(rows))

    def test_has_any_value(self):
        reach = Reach(House(3, [2, 1]), [1])
        self.assertIs(reach.has(Table(3, [[1, 2], [2]])), True)
        for value in (*OTHER_KINDS, THOUSAND_DIGITS, Table(3, [[1, 1], [3]]), Table(4, [[1, 1], [2]]), Table(3, []),
                      Table(3, [[1, 1]]), ((1, 1), (2,)), [[1, 1], [2]], Word(3, [2, 1, 1]), reach, reach.house):
            self.assertIs(reach.has(value), False)

    def test_tables_of_other_houses(self):
        reach = Reach(House(3, [2, 1]), [1, 2])
        for table in (Table(4, [[1, 1], [2]]), Table(3, []), Table(3, [[1, 1]]), Table(3, [[1, 1], [2], [3]]),
                      Table(2, [[1, 1], [2]])):
            refusal(self, OtherHouse, reach.path, table)
            refusal(self, OtherHouse, reach.rest, table)
            self.assertIs(reach.has(table), False)

    def test_without_indexes(self):
        for size in SIZES:
            for shape in ((), (1,), (3, 1), (40,)):
                house = House(size, shape)
                reach = Reach(house, [])
                self.assertEqual(reach.far_end(), house.top())
                self.assertEqual(reach.path(house.top()), ())
                self.assertIs(reach.has(house.top()), True)
                self.assertIs(reach.has(house.bottom()), house.bottom() == house.top())
                self.assertEqual(reach.rest(house.bottom()), house.bottom())
                self.assertEqual(reach.least_row(), ())

    def test_the_longest_growth_reaches_the_whole_house(self):
        for size in SIZES:
            row = [i for most in range(size - 1, 0, -1) for i in range(1, most + 1)]
            self.assertEqual(growth_of(size, row), tuple(range(size, 0, -1)))
            for shape in ((), (2,), (2, 1), (3, 2), (1,) * size):
                house = House(size, shape)
                self.assertEqual(list(Reach(house, row).each()), list(house.tables()))
                self.assertEqual(Reach(house, row).far_end(), house.bottom())

    def test_generators(self):
        reach = Reach(House(3, [2, 1]), [1])
        self.assertTrue(inspect.isgenerator(reach.each()))
        one, other = reach.each(), reach.each()
        self.assertEqual(next(one), next(other))
        self.assertEqual(len(list(one)), reach.count() - 1)
        self.assertEqual(list(reach.each()), [next(reach.each()), *other])

    def test_houses_that_are_listed_and_houses_that_are_not(self):
        for row in ((), (1,), (1, 2), (1, 2, 1), (2,) * 40):
            reach = Reach(House(3, (28, 9)), row)
            self.assertEqual(len(list(reach.each())), reach.count())
            for size, shape in ((3, (29, 10, 1)), (3, (29, 10)), (3, (31, 6)), (6, (10,)), *GREAT):
                # The first one has just 3,000 tables, too.
                house = House(size, shape)
                great = Reach(house, row if size > 2 else ())
                if house.count() <= 3000:
                    self.assertEqual(len(list(great.each())), great.count())
                    continue
                each = great.each()
                self.assertEqual(refusal(self, TooGreat, next, each).most, 3000)
                self.assertEqual(refusal(self, TooGreat, great.count).most, 3000)
        self.assertEqual(Reach(House(3, (28, 9)), (1, 2, 1)).count(), 3000)

    def test_great_houses(self):
        for size, shape in GREAT:
            house = House(size, shape)
            for row in long_rows(size):
                reach = Reach(house, row)
                end = reach.far_end()
                self.assertEqual(end.rows, plain_far_end(shape, row))
                for table in (house.top(), house.bottom(), end, house.table_at(house.count() // 3),
                              house.table_at(house.count() - 7)):
                    self.looks(reach, table.rows, reach.has(table))
                self.assertIs(reach.has(house.top()), True)
                self.assertIs(reach.has(end), True)
                self.assertEqual(reach.path(house.top()), (0,) * len(row))


class LeastRow(unittest.TestCase):

    def test_small_houses(self):
        for size in SIZES:
            length, most = SMALL_ROWS[size]
            for shape in plain_shapes(size, most):
                house = House(size, shape)
                wanted = least_rows(size, lambda row: plain_reach(shape, row))
                for row in short_rows(size, length):
                    told = Reach(house, row).least_row()
                    self.assertIs(type(told), tuple)
                    self.assertEqual(told, wanted[plain_reach(shape, row)], (size, shape, row))

    def test_stairs(self):
        for size, shape in ((3, (2, 1)), (4, (3, 2, 1)), (4, (2, 2, 1)), (4, (3, 3)), (5, (2, 1, 1))):
            wanted = least_rows(size, lambda row: plain_reach(shape, row))
            for least in wanted.values():
                for row in (least, least + least[-1:], least[::-1]):
                    self.assertEqual(Reach(House(size, shape), row).least_row(), wanted[plain_reach(shape, row)])

    def test_great_houses_and_equal_rows(self):
        more = ((6, (5, 5, 5)), (6, (5, 5, 3, 3, 1, 1)), (6, (6, 6, 6, 6, 6, 6)), (5, (7, 7, 1)), (6, (9, 9, 9, 2, 2)))
        for size, shape in (*GREAT, *more):
            wanted = least_rows(size, lambda row: plain_ends(size, shape, row))
            for row in (*long_rows(size), *list(wanted.values())[::7]):
                reach = Reach(House(size, shape), row)
                told = reach.least_row()
                self.assertEqual(told, wanted[plain_ends(size, shape, row)])
                self.assertEqual(Reach(House(size, shape), told), reach)


class Together(unittest.TestCase):

    def test_small_houses(self):
        for size, length, shapes in ((2, 2, ((), (1,), (2, 2), (3, 1))), (3, 4, ((), (1,), (1, 1), (2, 1), (2, 2, 1))),
                                     (4, 3, ((1,), (1, 1), (2, 1, 1), (2, 1))), (5, 2, ((2,), (2, 1), (1, 1, 1))),
                                     (6, 2, ((1,), (2, 1)))):
            for shape in shapes:
                made = {row: Reach(House(size, shape), row) for row in short_rows(size, length)}
                for one in made:
                    for other in made:
                        self.agrees(made[one], made[other], plain_reach(shape, one), plain_reach(shape, other))

    def agrees(self, one, other, here, there):
        self.assertIs(one == other, here == there)
        self.assertIs(one != other, here != there)
        self.assertIs(one.within(other), here <= there)
        parted = one.parted(other)
        if here <= there:
            self.assertIsNone(parted)
        else:
            self.assertIn(parted.rows, here - there)

    def test_other_houses(self):
        one = Reach(House(3, [2, 1]), [1])
        for house in (House(4, [2, 1]), House(3, [2]), House(3, [3, 2, 1]), House(3, []), House(2, [2, 1])):
            other = Reach(house, [1])
            self.assertIs(one == other, False)
            self.assertIs(one != other, True)
            refusal(self, OtherHouse, one.within, other)
            refusal(self, OtherHouse, one.parted, other)
            refusal(self, OtherHouse, other.parted, one)
        self.assertIs(one == Reach(House(3, (2, 1)), (1, 1)), True)
        self.assertIs(one.within(Reach(House(3, (2, 1)), [1, 1])), True)

    def test_no_reaches(self):
        one = Reach(House(3, [2, 1]), [1])
        for other in (*OTHER_KINDS, one.house, one.row, Word(3, [1]), one.far_end(), THOUSAND_DIGITS):
            self.assertIs(one == other, False)
            self.assertIs(one != other, True)
            self.assertIs(other == one, False)

    def test_great_houses(self):
        for size, shape in GREAT:
            house = House(size, shape)
            rows = list(long_rows(size)) + [(), (1,), (2,), (1, 2), (2, 1)]
            for one in rows:
                for other in rows:
                    here, there = Reach(house, one), Reach(house, other)
                    same = plain_ends(size, shape, one) == plain_ends(size, shape, other)
                    self.assertIs(here == there, same)
                    parted = here.parted(there)
                    self.assertIs(here.within(there), parted is None)
                    if parted is not None:
                        self.assertIs(here.has(parted), True)
                        self.assertIs(there.has(parted), False)
                    if same:
                        self.assertIsNone(parted)
                    elif parted is None:
                        # One that has less has not all of the other one.
                        self.assertIsNotNone(there.parted(here))


class Rows(unittest.TestCase):

    def test_all_short_rows(self):
        for size, most in ((2, 4), (3, 4), (4, 3), (5, 2), (6, 2)):
            rows = list(short_rows(size, most))
            for one in rows:
                for other in rows:
                    same = plain_order_of(size, one, True) == plain_order_of(size, other, True)
                    self.assertIs(rows_agree(size, one, list(other)), same)
                    shape = parting_shape(size, list(one), other)
                    if same:
                        self.assertIsNone(shape)
                    else:
                        self.assertIs(type(shape), tuple)
                        self.assertIs(Reach(House(size, shape), one) == Reach(House(size, shape), other), False)

    def test_the_shape_parts_them_plainly(self):
        for size, most in ((2, 3), (3, 4), (4, 3)):
            rows = list(short_rows(size, most))
            for one in rows[::3]:
                for other in rows:
                    shape = parting_shape(size, one, other)
                    if shape is not None:
                        self.assertNotEqual(plain_reach(shape, one), plain_reach(shape, other))

    def test_long_rows(self):
        for size in SIZES:
            for one in long_rows(size):
                for other in long_rows(size):
                    same = growth_of(size, one) == growth_of(size, other)
                    self.assertIs(rows_agree(size, one, other), same)
                    self.assertIs(parting_shape(size, one, other) is None, same)

    def test_refusals(self):
        for call in (rows_agree, parting_shape):
            for size in (*OTHER_KINDS, 0, 1, 7, -3, THOUSAND_DIGITS):
                self.assertIs(refusal(self, BadSize, call, size, None, [0]).value, size)
                self.assertIs(refusal(self, BadSize, call, size, [1], [1]).value, size)
            for size in SIZES:
                check_rows(self, lambda row: call(size, row, [1]), size)
                check_rows(self, lambda row: call(size, [1], row), size)
                self.assertEqual(refusal(self, BadRow, call, size, [1, 0], None).place, 1)
                self.assertIsNone(refusal(self, BadRow, call, size, None, [0]).place)


class Calls(unittest.TestCase):

    def test_by_names(self):
        house = House(3, [2, 1])
        reach = Reach(row=[1, 2], house=house)
        self.assertEqual(reach, Reach(house, [1, 2]))
        table = house.top()
        self.assertIs(reach.has(value=table), True)
        self.assertEqual(reach.path(table=table), (0, 0))
        self.assertEqual(reach.rest(table=table), table)
        self.assertIs(reach.within(other=Reach(house, [1])), False)
        self.assertEqual(reach.parted(other=Reach(house, [1])), reach.far_end())
        self.assertIs(rows_agree(other=[1], one=[1, 1], size=3), True)
        self.assertEqual(parting_shape(other=[1], one=[2], size=3), parting_shape(3, [2], [1]))

    def test_objects_never_change(self):
        house = House(3, [3, 1])
        reach = Reach(house, [1, 2])
        before = (house.size, house.shape, reach.row)
        for _ in range(2):
            self.assertEqual(list(reach.each()), list(Reach(House(3, (3, 1)), (1, 2)).each()))
            self.assertEqual(reach.least_row(), (1, 2))
            self.assertEqual(reach.far_end(), Reach(house, [1, 2]).far_end())
            self.assertIs(reach.within(reach), True)
        self.assertEqual((house.size, house.shape, reach.row), before)

    def test_great_inputs(self):
        # Lines, not seconds: about ten million lines are run in a second.
        house = House(6, (10, 9, 8, 7, 4, 2))
        for row in long_rows(6):
            reach, other = Reach(house, row), Reach(house, row[::2])
            for call in (reach.far_end, reach.least_row, lambda: reach == other, lambda: reach.within(other),
                         lambda: reach.has(house.bottom()), lambda: reach.path(house.top())):
                self.assertLess(lines_run(call), 20000)
        for size, shape in ((3, (28, 9)), (6, (4, 2, 1))):
            reach = Reach(House(size, shape), list(long_rows(size))[-1])
            self.assertLess(lines_run(reach.count), 500000)
            self.assertLess(lines_run(lambda: list(reach.each())), 2000000)


if __name__ == "__main__":
    unittest.main()
