import unittest
from itertools import permutations, product
from math import factorial

from liftwords import joins
from liftwords.bags import apart, bag_of
from liftwords.errors import BadShape, BadSize, TooGreat
from liftwords.houses import House, joined_tops, multiplicity
from liftwords.joins import fallen, recordings
from liftwords.tables import Table
from liftwords.words import Word
from tests.plain import OTHER_KINDS, SIZES, THOUSAND_DIGITS, lines_run, refusal
from tests.plain_bags import plain_fallen, plain_recordings
from tests.plain_tables import plain_count, plain_shapes
from tests.test_houses import no_shapes

NO_LISTS = (None, True, False, 0, 1, "", "1", b"\x01", {}, {(1,): 1}, {(1,)}, range(2), object(), slice(0, 1),
            THOUSAND_DIGITS, Word(3, [1]), Table(3, [[1]]), House(3, [1]))
# The most letters of two and of three shapes that are joined.
JOINED = {2: (5, 4), 3: (4, 2), 4: (2, 2), 5: (2, 1), 6: (2, 1)}


class Fallen(unittest.TestCase):

    def test_where_they_stand(self):
        for name in ("fallen", "recordings"):
            self.assertEqual(getattr(joins, name).__module__, "liftwords.joins")

    def test_examples(self):
        self.assertEqual(fallen(3, [(1,), (1,)]), {(1, 1): 1, (2,): 1})
        self.assertEqual(fallen(3, [(2, 1), (2, 1)]),
                         {(2, 2, 2): 1, (3, 2, 1): 2, (3, 3): 1, (4, 1, 1): 1, (4, 2): 1})
        self.assertEqual(fallen(2, ([3], (1, 1))), {(4, 1): 1})

    def agrees(self, size, shapes, wanted):
        for given in (list(shapes), tuple(shapes), [list(shape) for shape in shapes]):
            told = fallen(size, given)
            self.assertEqual(list(told.items()), list(wanted.items()), (size, shapes))

    def test_against_the_plain_reading(self):
        for size in SIZES:
            two, three = JOINED[size]
            for shape in plain_shapes(size, two):
                self.agrees(size, [shape], {shape: 1})
                for other in plain_shapes(size, two):
                    self.agrees(size, [shape, other], plain_fallen(size, [shape, other]))
            some = list(plain_shapes(size, three))
            for shapes in product(some, some[::2], some):
                self.agrees(size, shapes, plain_fallen(size, shapes))
        self.agrees(2, [(1,), (2,), (1, 1), (1,)], plain_fallen(2, [(1,), (2,), (1, 1), (1,)]))
        self.agrees(3, [(1,), (2,), (1, 1), (1,)], plain_fallen(3, [(1,), (2,), (1, 1), (1,)]))

    def test_without_shapes_and_without_letters(self):
        for size in SIZES:
            for shapes in ([], (), [()], [[], ()], ((),) * 8):
                self.assertEqual(fallen(size, shapes), {(): 1})
            self.assertEqual(fallen(size, [(), (2,), []]), {(2,): 1})
            told = fallen(size, [])
            told[(1,)] = 1
            self.assertEqual(fallen(size, []), {(): 1})

    def test_one_shape(self):
        for size in SIZES:
            for shape in ((), (1,), (3, 1), (2, 2), (1,) * size, (5,) * size):
                self.assertEqual(fallen(size, [shape]), {shape: 1})
        self.assertEqual(fallen(3, [(28, 9)]), {(28, 9): 1})
        self.assertEqual(fallen(2, [(40,)]), {(40,): 1})

    def test_any_order(self):
        for size, shapes in ((2, [(3,), (2, 1), (4, 4), (1,)]), (3, [(2, 1), (3,), (1, 1), (2, 2, 1)]),
                             (4, [(2, 1), (1, 1, 1), (3,)]), (5, [(2, 1), (1, 1), (2,)]), (6, [(2, 1), (1, 1, 1), (1,)])):
            wanted = fallen(size, shapes)
            for order in permutations(shapes):
                self.assertEqual(list(fallen(size, order).items()), list(wanted.items()))

    def test_single_letters(self):
        for size in SIZES:
            for many in range(9):
                wanted = {shape: plain_recordings(shape) for shape in sorted(plain_shapes(size, many))
                          if sum(shape) == many}
                self.assertEqual(list(fallen(size, [(1,)] * many).items()), list(wanted.items()))

    def test_two_houses_as_multiplicity_and_joined_tops_tell(self):
        for size, one, other in ((2, (9, 4), (7, 2)), (3, (6, 3, 1), (8, 2)), (4, (4, 2, 1), (3, 3, 1)),
                                 (5, (3, 2, 1), (4, 1, 1)), (6, (3, 2, 1), (2, 2, 1, 1)), (6, (3, 2, 1), (15, 9, 7, 2, 1))):
            if House(size, other).count() > 3000:
                self.assertEqual(refusal(self, TooGreat, fallen, size, [one, other]).most, 3000)
                continue
            told = fallen(size, [one, other])
            tops = joined_tops(House(size, one), House(size, other))
            self.assertEqual(list(told.items()), [(shape, len(tables)) for shape, tables in tops.items()])
            for shape, many in told.items():
                self.assertEqual(multiplicity(House(size, other), House(size, one), shape), many)

    def test_as_many_tables_before_and_behind(self):
        for size, shapes in ((2, [(5,)] * 8), (3, [(4, 1)] * 8), (4, [(4, 1)] * 8), (5, [(2, 1), (3, 1), (2, 2, 1)]),
                             (6, [(2, 1)] * 5), (6, [(2, 2, 1), (2, 2, 1), (2, 1, 1, 1), (1,) * 6, (3, 3, 2, 2, 2, 2)]),
                             (4, [(7, 4, 2), (7, 4, 2), (10, 2, 1)]), (3, [(28, 9), (3,)])):
            wanted = 1
            for shape in shapes:
                wanted *= plain_count(size, shape)
            told = fallen(size, shapes)
            self.assertEqual(sum(many * plain_count(size, shape) for shape, many in told.items()), wanted)
            self.assertTrue(all(sum(shape) == sum(map(sum, shapes)) for shape in told))
            self.assertEqual(list(told), sorted(told))

    def test_three_houses_step_by_step(self):
        for size, shapes in ((3, [(5, 2), (4, 1), (6, 3)]), (4, [(3, 1), (2, 2), (3, 1, 1)]), (6, [(2, 1), (2, 1), (3,)])):
            wanted = {}
            for shape, many in fallen(size, shapes[1:]).items():
                for told, tables in joined_tops(House(size, shapes[0]), House(size, shape)).items():
                    wanted[told] = wanted.get(told, 0) + many * len(tables)
            self.assertEqual(fallen(size, shapes), wanted)

    def test_bags_of_joined_houses(self):
        # The counts of readings put one behind another are added; so the bags are multiplied.
        for size, one, other in ((2, (3, 1), (2,)), (3, (2, 1), (2,)), (4, (2, 1), (1, 1)), (5, (2,), (1, 1))):
            bag = {}
            for near, few in bag_of(House(size, one)).items():
                for far, many in bag_of(House(size, other)).items():
                    counts = tuple(a + b for a, b in zip(near, far))
                    bag[counts] = bag.get(counts, 0) + few * many
            self.assertEqual(apart(size, bag), fallen(size, [one, other]))


class FallenRefusals(unittest.TestCase):

    def test_no_size(self):
        for size in (*OTHER_KINDS, 0, 1, 7, -3, THOUSAND_DIGITS):
            for shapes in ([], [(1,)], None, [None]):
                self.assertIs(refusal(self, BadSize, fallen, size, shapes).value, size)

    def test_no_shapes(self):
        for size in SIZES:
            for shapes in (*NO_LISTS, [(1,)] * 9, ((),) * 9, (None,) * 9, [(40,)] * 9, list(range(1000))):
                self.assertIs(refusal(self, BadShape, fallen, size, shapes).value, shapes)
            fallen(size, [(1,)] * 8)
            fallen(size, ((),) * 8)

    def test_the_first_that_is_no_shape(self):
        for size in SIZES:
            for value in no_shapes(size):
                self.assertIs(refusal(self, BadShape, fallen, size, [value]).value, value)
                self.assertIs(refusal(self, BadShape, fallen, size, ((40,), [40], value, None)).value, value)
                self.assertIs(refusal(self, BadShape, fallen, size, [(1,)] * 7 + [value]).value, value)

    def test_more_than_forty_letters(self):
        for size in SIZES:
            for shapes in ([(40,), (1,)], [(39,), (1, 1)], [(5,)] * 7 + [(5, 1)], [(20, 20), (1,)], [(40,), (40,)]):
                self.assertEqual(refusal(self, TooGreat, fallen, size, shapes).most, 40)
        self.assertEqual(refusal(self, TooGreat, fallen, 6, [(10, 9, 8, 7, 4, 2), (1,)]).most, 40)

    def test_houses_of_more_than_three_thousand_tables(self):
        self.assertEqual(len(fallen(3, [(28, 9)])), 1)
        self.assertEqual(len(fallen(3, [(28, 9), (1,)])), 3)
        for size, shapes in ((3, [(29, 10)]), (3, [(29, 10, 1)]), (3, [(1,), (29, 10)]), (6, [(10,)]),
                             (6, [(1,), (10,), (1,)]), (6, [(10, 9, 8, 7, 4, 2)]), (6, [(20,), (20,)])):
            if House(size, shapes[0]).count() == 3000:
                continue
            self.assertEqual(refusal(self, TooGreat, fallen, size, shapes).most, 3000)


class Recordings(unittest.TestCase):

    def test_examples(self):
        self.assertEqual(recordings([2, 1]), 2)
        self.assertEqual(recordings(()), 1)
        self.assertEqual(recordings([3, 2]), 5)
        self.assertEqual(recordings([1] * 6), 1)

    def test_small_shapes(self):
        for shape in plain_shapes(6, 9):
            for given in (shape, list(shape)):
                self.assertEqual(recordings(given), plain_recordings(shape))

    def test_great_shapes(self):
        self.assertEqual(recordings((40,)), 1)
        self.assertEqual(recordings((39, 1)), 39)
        # By two equal rows, the numbers of Catalan.
        self.assertEqual(recordings((20, 20)), factorial(40) // factorial(20) // factorial(21))
        for shape in ((10, 9, 8, 7, 4, 2), (7, 7, 7, 7, 6, 6), (34, 2, 1, 1, 1, 1), (20, 10, 10), (8, 8, 8, 8, 8)):
            self.assertEqual(recordings(shape), plain_recordings(shape))

    def test_no_shapes(self):
        for shape in no_shapes(6):
            self.assertIs(refusal(self, BadShape, recordings, shape).value, shape)


class Calls(unittest.TestCase):

    def test_by_names(self):
        self.assertEqual(fallen(shapes=[(1,)], size=3), {(1,): 1})
        self.assertEqual(recordings(shape=[2, 1]), 2)

    def test_what_was_passed_stays(self):
        shapes = [[2, 1], (1, 1), [1]]
        self.assertEqual(fallen(3, shapes), fallen(3, shapes))
        recordings(shapes[0])
        self.assertEqual(shapes, [[2, 1], (1, 1), [1]])

    def test_great_inputs(self):
        # Lines, not seconds: about ten million lines are run in a second.
        for size, shapes, most in ((6, [(3, 2)] * 8, 4000000), (5, [(4, 1)] * 8, 2000000), (6, [(1,)] * 8, 40000)):
            self.assertLess(lines_run(lambda: fallen(size, shapes)), most)


if __name__ == "__main__":
    unittest.main()
