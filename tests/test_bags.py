import unittest
from collections import OrderedDict
from itertools import permutations, product

from liftwords import bags
from liftwords.bags import added, apart, bag_of, bag_of_words, bar, is_bar, signed_sum
from liftwords.errors import BadCounts, BadSize, OtherSize, TooGreat
from liftwords.houses import House
from liftwords.words import Word
from tests.plain import OTHER_KINDS, SIZES, THOUSAND_DIGITS, lines_run, long_letters, refusal, samples
from tests.plain_bags import (falling_counts, orders, plain_apart, plain_bag, plain_signed_sum, plain_sum)
from tests.plain_tables import SMALL, plain_counts, plain_shapes

# Values that are no dicts.
NO_DICTS = (None, True, False, 0, 1, "", "1", b"1", (), [], ((1, 0),), [(1, 0)], {1}, {(1, 0)}, range(2), object(),
            Word(2, [1]), House(2, [1]), THOUSAND_DIGITS, [((1, 0), 1)])
NO_NUMBERS = (0, -1, True, False, None, "1", (1,), [1], {}, -THOUSAND_DIGITS, int)


def nested(depth):
    value = ()
    for _ in range(depth):
        value = (value,)
    return value


def no_counts(size):
    """Values that are no counts of a size, and that can be keys."""
    zeros = (0,) * (size - 1)
    return ((1,) * (size - 1), (1,) * (size + 1), (), zeros, (-1, *zeros), (1, *zeros[:-1], -1), (True, *zeros),
            (*zeros, False), (None, *zeros), ("1", *zeros), ((1,), *zeros), (41, *zeros), (40, *zeros[:-1], 1),
            (20, 21, *zeros[1:]), (THOUSAND_DIGITS, *zeros), (-THOUSAND_DIGITS, *zeros), (THOUSAND_DIGITS,
                                                                                         -THOUSAND_DIGITS, *zeros[1:]),
            "1" * size, 1, 0, True, None, b"1" * size, nested(50), (nested(50), *zeros), int, THOUSAND_DIGITS)


def great_bag(size, many):
    """A bag of so many counts."""
    found = {}
    for counts in product(range(40 // size + 1), repeat=size):
        if len(found) == many:
            break
        found[counts] = 1 + sum(counts)
    return found


def sums_of_houses(size):
    """By lists of shapes, the sums of the bags of their houses."""
    shapes = list(plain_shapes(size, SMALL[size] - (size > 3)))
    for number, shape in enumerate(shapes):
        yield [shape]
        yield [shape] * 3
        yield [shape, shapes[number // 2], shapes[-1 - number // 3]]
    yield []
    yield shapes
    yield shapes[::2] * 2 + shapes[-2:]


def check_bags(case, size, call):
    """What a call must refuse that takes a bag."""
    for bag in NO_DICTS:
        case.assertIsNone(refusal(case, BadCounts, call, bag).value)
    fine = (1,) + (0,) * (size - 1)
    more = (0,) * (size - 1) + (1,)
    for key in no_counts(size):
        case.assertIs(refusal(case, BadCounts, call, {key: 1}).value, key)
        if key != fine:
            case.assertIs(refusal(case, BadCounts, call, {fine: 1, key: None, "later": 0}).value, key)
    for many in NO_NUMBERS:
        case.assertIs(refusal(case, BadCounts, call, {more: 5, fine: many, 7: 0}).value, fine)
    call({fine: THOUSAND_DIGITS, more: 1})
    call(OrderedDict([(fine, 1)]))


class Making(unittest.TestCase):

    def test_where_they_stand(self):
        for name in ("bag_of", "bag_of_words", "added", "signed_sum", "apart", "bar", "is_bar"):
            self.assertEqual(getattr(bags, name).__module__, "liftwords.bags")

    def test_examples(self):
        self.assertEqual(bag_of(House(2, [2])), {(0, 2): 1, (1, 1): 1, (2, 0): 1})
        self.assertEqual(bag_of(House(3, [2, 1]))[1, 1, 1], 2)
        self.assertEqual(bag_of_words([Word(2, [1, 2]), Word(2, [1]), Word(2, [2, 1])]), {(1, 0): 1, (1, 1): 2})
        self.assertEqual(added(2, {(1, 0): 1, (0, 1): 2}, {(0, 1): 3}), {(0, 1): 5, (1, 0): 1})

    def test_bags_of_houses(self):
        for size in SIZES:
            for shape in plain_shapes(size, SMALL[size] + (size < 5)):
                house = House(size, shape)
                told = bag_of(house)
                self.assertEqual(list(told.items()), list(plain_bag(size, shape).items()))
                for counts in falling_counts(size, sum(shape)):
                    for other in (counts, counts[::-1]):
                        self.assertEqual(told.get(other, 0), house.how_many(other))
                told.clear()
                self.assertEqual(bag_of(house), plain_bag(size, shape))

    def test_great_houses(self):
        for size, shape in ((3, (28, 9)), (6, (4, 2, 1)), (4, (10, 10, 10)), (2, (40,)), (6, (7, 7, 7, 7, 6, 6))):
            house = House(size, shape)
            told = bag_of(house)
            self.assertEqual(sum(told.values()), house.count())
            self.assertEqual(list(told), sorted(told))
            for counts in list(told)[::29]:
                self.assertEqual(told[counts], house.how_many(counts))
        for size, shape in ((3, (29, 10)), (6, (10,)), (6, (10, 9, 8, 7, 4, 2))):
            self.assertEqual(refusal(self, TooGreat, bag_of, House(size, shape)).most, 3000)

    def test_bags_of_words(self):
        self.assertEqual(bag_of_words([]), {})
        self.assertEqual(bag_of_words(()), {})
        for size in SIZES:
            words = [Word(size, letters) for letters in samples(size)]
            for some in (words, words[:1], words[::7], words[3:9] * 2):
                wanted = {}
                for word in some:
                    counts = plain_counts(size, word.letters)
                    wanted[counts] = wanted.get(counts, 0) + 1
                for given in (list(some), tuple(some)):
                    told = bag_of_words(given)
                    self.assertEqual(list(told.items()), sorted(wanted.items()))

    def test_words_of_several_sizes(self):
        refusal(self, OtherSize, bag_of_words, [Word(2, []), Word(3, [])])
        refusal(self, OtherSize, bag_of_words, (Word(2, [1]), Word(2, [1]), Word(3, [1])))
        refusal(self, OtherSize, bag_of_words, [Word(6, [1]), Word(2, [1]), Word(6, [1])])

    def test_added(self):
        for size in SIZES:
            shapes = list(plain_shapes(size, 3))
            for one in shapes:
                for other in shapes[::2]:
                    pair = plain_bag(size, one), plain_bag(size, other)
                    before = [list(bag.items()) for bag in pair]
                    told = added(size, *pair)
                    self.assertEqual(list(told.items()), list(plain_sum(pair).items()))
                    self.assertEqual([list(bag.items()) for bag in pair], before)
                    told.clear()
                    pair[0][(9,) + (0,) * (size - 1)] = 4
                    self.assertEqual(plain_bag(size, one), dict(before[0]))

    def test_added_in_any_order(self):
        self.assertEqual(list(added(2, {(3, 0): 1, (0, 3): 1}, {(1, 1): 2, (0, 0): 1}).items()),
                         [((0, 0), 1), ((0, 3), 1), ((1, 1), 2), ((3, 0), 1)])
        self.assertEqual(added(2, {}, {}), {})
        bag = {(1, 0): 1}
        told = added(2, bag, {})
        told[(1, 0)] = 7
        self.assertEqual(bag, {(1, 0): 1})
        self.assertEqual(added(2, bag, bag), {(1, 0): 2})
        self.assertEqual(bag, {(1, 0): 1})


class Refusals(unittest.TestCase):

    def calls(self, size):
        zeros = (0,) * size
        return (lambda bag: added(size, bag, {}), lambda bag: added(size, {}, bag), lambda bag: apart(size, bag),
                lambda bag: bar(size, bag), lambda bag: is_bar(size, bag, None), lambda bag: added(size, bag, bag),
                lambda bag: signed_sum(size, bag, zeros), lambda bag: is_bar(size, bag, ("below", zeros)))

    def test_no_bags(self):
        for size in SIZES:
            for call in self.calls(size):
                check_bags(self, size, call)

    def test_five_hundred_counts(self):
        for size in (3, 4, 5, 6):
            for call in self.calls(size):
                call(great_bag(size, 500) if size > 3 else great_bag(size, 400))
                if size > 3:
                    self.assertIsNone(refusal(self, BadCounts, call, great_bag(size, 501)).value)
                bad = great_bag(size, 300)
                bad.update({number: 1 for number in range(201)})
                self.assertIsNone(refusal(self, BadCounts, call, bad).value)

    def test_sizes_first(self):
        for size in (*OTHER_KINDS, 0, 1, 7, -3, THOUSAND_DIGITS):
            for bag in ({}, None, {(1, 0): 0}):
                for call in (lambda: added(size, bag, bag), lambda: apart(size, bag), lambda: bar(size, bag),
                             lambda: is_bar(size, bag, None), lambda: signed_sum(size, bag, None)):
                    self.assertIs(refusal(self, BadSize, call).value, size)

    def test_one_then_the_other(self):
        self.assertIsNone(refusal(self, BadCounts, added, 2, None, {5: 1}).value)
        self.assertEqual(refusal(self, BadCounts, added, 2, {5: 1}, None).value, 5)
        self.assertEqual(refusal(self, BadCounts, added, 2, {(1, 0): 1}, {(1, 0): 1, (1,): 1}).value, (1,))

    def test_the_bag_then_the_counts(self):
        self.assertEqual(refusal(self, BadCounts, signed_sum, 2, {5: 1}, None).value, 5)
        for size in SIZES:
            zeros = [0] * size
            for counts in (*no_counts(size), zeros, [1] * size, {}, [], THOUSAND_DIGITS):
                self.assertIs(refusal(self, BadCounts, signed_sum, size, {tuple(zeros): 1}, counts).value, counts)
            self.assertIsNone(refusal(self, BadCounts, signed_sum, size, {}, None).value)


class SignedSums(unittest.TestCase):

    def test_against_the_plain_reading(self):
        told = set()
        for size in SIZES:
            for number, shapes in enumerate(sums_of_houses(size)):
                if size == 6 and number % 5:
                    continue
                bag = plain_sum([plain_bag(size, shape) for shape in shapes])
                for total in sorted({sum(counts) for counts in bag}):
                    for counts in list(falling_counts(size, total))[:6]:
                        for other in (counts, counts[::-1], counts[1:] + counts[:1]):
                            wanted = plain_signed_sum(size, bag, other)
                            told.add(wanted)
                            self.assertEqual(signed_sum(size, bag, other), wanted)
        self.assertGreater(max(told), 2)
        self.assertLess(min(told), -2)

    def test_bags_that_are_no_sums(self):
        for size in SIZES:
            for number, letters in enumerate(long_letters(size, 8)):
                counts = plain_counts(size, letters)
                near = [tuple(counts[k] + (k == i) - (k == j) for k in range(size))
                        for i in range(size) for j in range(size)]
                bag = {other: 1 + (number + place) % 4 for place, other in enumerate(near) if min(other) >= 0}
                for other in list(bag)[::3] + [tuple(sorted(counts, reverse=True)), counts]:
                    self.assertEqual(signed_sum(size, bag, other), plain_signed_sum(size, bag, other))

    def test_each_order_with_its_sign(self):
        for size in SIZES:
            m = tuple(range(size))
            for q, sign in orders(size)[::1 if size < 6 else 7]:
                counts = tuple(m[k] + (size - 1 - k) - q[k] for k in range(size))
                if min(counts) >= 0:
                    self.assertEqual(signed_sum(size, {counts: 5}, m), 5 * sign)
        self.assertEqual(signed_sum(2, {(1, 1): 1}, (1, 1)), 1)
        self.assertEqual(signed_sum(2, {(2, 0): 1}, (1, 1)), -1)
        self.assertEqual(signed_sum(2, {(1, 1): 1}, (0, 2)), -1)
        self.assertEqual(signed_sum(2, {}, (0, 2)), 0)

    def test_forty_letters(self):
        bag = {(40, 0): 3, (39, 1): 2, (20, 20): THOUSAND_DIGITS}
        self.assertEqual(signed_sum(2, bag, (40, 0)), 3)
        self.assertEqual(signed_sum(2, bag, (39, 1)), -1)
        self.assertEqual(signed_sum(2, bag, (20, 20)), THOUSAND_DIGITS)
        self.assertEqual(signed_sum(2, bag, (0, 40)), 0)


def wrong_bags(size, bag):
    """What comes of a bag when something in it is changed."""
    keys = list(bag)
    for key in keys[::1 + len(keys) // 5]:
        yield {**bag, key: bag[key] + 1}
        less = {counts: many for counts, many in bag.items() if counts != key}
        yield less
        yield {**less, key: bag[key] - 1} if bag[key] > 1 else {**bag, key: 2}
        turned = set(permutations(key))
        yield {counts: many for counts, many in bag.items() if counts not in turned}
        yield {counts: many + (counts in turned) for counts, many in bag.items()}
        yield {counts: many + 3 * (counts not in turned) for counts, many in bag.items()}
    for k in range(size):
        yield {**bag, tuple(5 * (k == j) for j in range(size)): 1}
    yield {**bag, (1,) * size: bag.get((1,) * size, 0) + 1}


class Apart(unittest.TestCase):

    def check_bar(self, size, bag, told):
        self.assertIs(type(told), tuple)
        if told[0] == "unlike":
            kind, one, other = told
            self.assertEqual(sorted(one), sorted(other))
            self.assertNotEqual(bag.get(one, 0), bag.get(other, 0))
        else:
            kind, counts = told
            self.assertEqual(kind, "below")
            self.assertEqual(list(counts), sorted(counts, reverse=True))
            self.assertLess(plain_signed_sum(size, bag, counts), 0)
        for counts in told[1:]:
            self.assertIs(type(counts), tuple)
        self.assertIs(is_bar(size, bag, told), True)

    def test_sums_are_taken_apart(self):
        for size in SIZES:
            for shapes in sums_of_houses(size):
                bag = plain_sum([plain_bag(size, shape) for shape in shapes])
                if len(bag) > 500:
                    continue
                wanted = [(shape, shapes.count(shape)) for shape in sorted(set(shapes))]
                self.assertEqual(list(apart(size, bag).items()), wanted)
                mixed = {counts: bag[counts] for counts in list(bag)[::-1]}
                self.assertEqual(list(apart(size, mixed).items()), wanted)
                self.assertIsNone(bar(size, bag))

    def test_the_empty_bag_and_the_house_without_letters(self):
        for size in SIZES:
            self.assertEqual(apart(size, {}), {})
            self.assertIsNone(bar(size, {}))
            self.assertEqual(apart(size, {(0,) * size: 3}), {(): 3})
            told = apart(size, {})
            told[1] = 1
            self.assertEqual(apart(size, {}), {})

    def test_changed_bags(self):
        told = {"unlike": 0, "below": 0, None: 0}
        for size in SIZES:
            for number, shapes in enumerate(sums_of_houses(size)):
                if len(shapes) > 3 or size > 4 and number % 4:
                    continue
                for bag in wrong_bags(size, plain_sum([plain_bag(size, shape) for shape in shapes])):
                    wanted = plain_apart(size, bag)
                    self.assertEqual(apart(size, bag), wanted)
                    if wanted is not None:
                        self.assertEqual(list(apart(size, bag)), sorted(wanted))
                        self.assertIsNone(bar(size, bag))
                        told[None] += 1
                    else:
                        found = bar(size, bag)
                        told[found[0]] += 1
                        self.check_bar(size, bag, found)
        self.assertGreater(min(told.values()), 20, told)

    def test_great_bags(self):
        bag = plain_sum([bag_of(House(6, shape)) for shape in ((2, 1), (3,), (1, 1, 1, 1), (2, 2), (3, 3, 3, 3, 2, 1))])
        self.assertEqual(apart(6, bag), {(1, 1, 1, 1): 1, (2, 1): 1, (2, 2): 1, (3,): 1, (3, 3, 3, 3, 2, 1): 1})
        bag[(0, 0, 0, 0, 0, 40)] = 1
        self.check_bar(6, bag, bar(6, bag))
        stairs = {counts: 1 for counts in permutations((5, 4, 3, 2, 1, 0))}
        self.assertIsNone(refusal(self, BadCounts, apart, 6, stairs).value)
        for counts in ((40, 0, 0), (20, 12, 8), (12, 14, 14)):
            bag = {other: 7 for other in permutations(counts)}
            self.assertIsNone(apart(3, bag))
            self.check_bar(3, bag, bar(3, bag))


class IsBar(unittest.TestCase):

    # The first one has (2, 1, 0) in one order more often; the second one (1, 1, 1) too seldom.
    UNLIKE = {(2, 1, 0): 2, (2, 0, 1): 1, (1, 2, 0): 1, (0, 2, 1): 1, (1, 0, 2): 1, (0, 1, 2): 1, (1, 1, 1): 2}
    BELOW = {(2, 1, 0): 1, (2, 0, 1): 1, (1, 2, 0): 1, (0, 2, 1): 1, (1, 0, 2): 1, (0, 1, 2): 1, (1, 1, 1): 1}

    def test_all_counts_of_three_letters(self):
        every = [counts for counts in product(range(4), repeat=3) if sum(counts) in (0, 3, 4)]
        for bag in (self.UNLIKE, self.BELOW, plain_bag(3, (2, 1)), {}, {(3, 0, 0): 1}, {(0, 0, 3): 2, (0, 1, 2): 1}):
            for one in every:
                falls = list(one) == sorted(one, reverse=True)
                self.assertIs(is_bar(3, bag, ("below", one)), falls and plain_signed_sum(3, bag, one) < 0)
                for other in every:
                    unlike = sorted(one) == sorted(other) and bag.get(one, 0) != bag.get(other, 0)
                    self.assertIs(is_bar(3, bag, ("unlike", one, other)), unlike)

    def test_wrong_values(self):
        one, other, low = (2, 1, 0), (0, 1, 2), (1, 1, 1)
        self.assertIs(is_bar(3, self.UNLIKE, ("unlike", one, other)), True)
        self.assertIs(is_bar(3, self.BELOW, ("below", low)), True)
        deep = nested(20000)
        kinds = (*OTHER_KINDS, THOUSAND_DIGITS, deep, [deep], Word(3, [1]), {}, self.BELOW)
        for value in (*kinds, ["unlike", one, other], ("unlike", list(one), other), ("unlike", one, list(other)),
                      ("unlike", one), ("unlike", one, other, other), ("unlike", one, other, None), ("unlike",),
                      ("unlike", (one, other)), ("Unlike", one, other), ("like", one, other), ("", one, other),
                      (one, other), (one, other, "unlike"), ("unlike", one, (2, 1)), ("unlike", one, (2, 1, 0, 0)),
                      ("unlike", one, one), ("unlike", other, (0, 2, 1)), ("unlike", one, low), ("unlike", one, None),
                      ("unlike", (2, True, 0), other), ("unlike", (2, 1, False), other), (b"unlike", one, other),
                      ("unlike", (2, 1, 0, 0), (0, 0, 1, 2)), ("below", one, other), ("unlike", "210", "012"),
                      ("unlike", (THOUSAND_DIGITS, 1, 0), other), (None, one, other), ("unlike", deep, other),
                      ("unlike", (deep, 1, 0), other), (("unlike",), one, other), (["unlike"], one, other)):
            self.assertIs(is_bar(3, self.UNLIKE, value), False, value if value != deep else None)
        for value in (*kinds, ["below", low], ("below", [1, 1, 1]), ("below", low, low), ("below",), ("below", one),
                      ("below", (0, 1, 2)), ("below", (3, 0, 0)), ("below", (1, 1)), ("below", (1, 1, 1, 0)), low,
                      ("below", (True, 1, 1)), ("below", None), ("unlike", low), ("beyond", low), ("below", deep),
                      ("below", (deep, deep, deep)), ("below", (-1, 2, 2)), ("below", (41, 0, 0)), ("below", "111"),
                      ("below", (THOUSAND_DIGITS, 0, 0)), ("unlike", low, low), ("unlike", one, other),
                      (None, low), (low, "below"), ("below", (low,)), ("below", 3), (0, low), (True, low)):
            self.assertIs(is_bar(3, self.BELOW, value), False)

    def test_a_signed_sum_of_just_nothing(self):
        bag = {**self.BELOW, (1, 1, 1): 2}
        self.assertEqual(signed_sum(3, bag, (1, 1, 1)), 0)
        self.assertIs(is_bar(3, bag, ("below", (1, 1, 1))), False)
        self.assertEqual(apart(3, bag), {(2, 1): 1})

    def test_bags_that_are_unlike_and_below(self):
        # What is told of the one kind does not keep the other one from being told.
        bag = {(3, 0, 0): 1, (0, 3, 0): 2}
        self.assertLess(plain_signed_sum(3, bag, (2, 1, 0)), 0)
        self.assertIs(is_bar(3, bag, ("below", (2, 1, 0))), True)
        self.assertIs(is_bar(3, bag, ("unlike", (0, 0, 3), (0, 3, 0))), True)


class Calls(unittest.TestCase):

    def test_by_names(self):
        bag = plain_bag(3, (2, 1))
        self.assertEqual(bag_of(house=House(3, [2, 1])), bag)
        self.assertEqual(bag_of_words(words=[Word(2, [1])]), {(1, 0): 1})
        self.assertEqual(added(other={}, one=bag, size=3), bag)
        self.assertEqual(signed_sum(counts=(2, 1, 0), bag=bag, size=3), 1)
        self.assertEqual(apart(bag=bag, size=3), {(2, 1): 1})
        self.assertIsNone(bar(bag=bag, size=3))
        self.assertIs(is_bar(value=None, bag=bag, size=3), False)

    def test_what_was_passed_stays(self):
        bag = {(1, 0): 1, (0, 1): 1, (2, 0): 3}
        words = [Word(2, [1]), Word(2, [2, 1])]
        for call in (lambda: added(2, bag, bag), lambda: signed_sum(2, bag, (1, 0)), lambda: apart(2, bag),
                     lambda: bar(2, bag), lambda: is_bar(2, bag, ("below", (1, 0))), lambda: bag_of_words(words)):
            self.assertEqual(call(), call())
        self.assertEqual(list(bag.items()), [((1, 0), 1), ((0, 1), 1), ((2, 0), 3)])
        self.assertEqual(words, [Word(2, [1]), Word(2, [2, 1])])

    def test_great_inputs(self):
        # Lines, not seconds: about ten million lines are run in a second.
        bag = plain_sum([bag_of(House(6, shape)) for shape in ((2, 2), (3, 1), (2, 1, 1), (3, 2, 2, 2, 1, 1), (2, 2, 1))])
        self.assertGreater(len(bag), 300)
        self.assertLess(lines_run(lambda: apart(6, bag)), 200000)
        bag = great_bag(6, 500)
        self.assertLess(lines_run(lambda: bar(6, bag)), 200000)
        self.assertLess(lines_run(lambda: signed_sum(6, bag, (5, 5, 5, 5, 5, 5))), 200000)
        self.assertLess(lines_run(lambda: bag_of(House(6, (4, 2, 1)))), 200000)
        self.assertLess(lines_run(lambda: bag_of(House(3, (28, 9)))), 200000)


if __name__ == "__main__":
    unittest.main()
