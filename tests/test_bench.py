import unittest

from liftwords import bench as bench_module
from liftwords.alike import alike
from liftwords.bench import Bench, tried
from liftwords.errors import BadDeed, BadMove, LiftError, NothingLeft, Stuck, TooGreat
from liftwords.tables import Table
from liftwords.words import Word
from tests.plain import OTHER_KINDS, SIZES, THOUSAND_DIGITS, lines_run, long_letters, plain_deed, refusal
from tests.plain_tables import plain_move
from tests.test_moves import NO_MOVES

NO_STEPS = tuple(value for value in OTHER_KINDS if not isinstance(value, tuple)) + (Word(2, [1]), Bench(Word(2, [1])))
NO_LISTS = (*[value for value in OTHER_KINDS if not isinstance(value, (list, tuple))], 0, 1, THOUSAND_DIGITS, range(1),
            iter([1]), {1}, {1: 1}, Word(2, [1]), Bench(Word(2, [1])))
KINDS = ("first", "last", "in", "out")


class PlainBench:
    """A bench by lists of letters and of steps."""

    def __init__(self, size, letters):
        self.size = size
        self.first = letters
        self.done = []
        self.undone = []

    def word(self, steps=None):
        """The letters that come of some steps (those that stand), or the error and the number of the first refused."""
        letters = self.first if steps is None else self.word()
        for number, step in enumerate(self.done if steps is None else steps):
            if isinstance(step, tuple):
                letters = plain_move(self.size, letters, step)
                if letters is None:
                    return BadMove, number
                if len(letters) > 40:
                    return TooGreat, 40
            else:
                letters = plain_deed(letters, step)
                if letters is None:
                    return Stuck, number
        return letters

    def do_all(self, steps):
        found = self.word(steps)
        if steps and (not found or isinstance(found[0], int)):
            self.done.extend(steps)
            self.undone = []
        return found


def told_place(error):
    return error.most if isinstance(error, TooGreat) else error.place


class Numbers:
    """Numbers in no order that can be seen, the same ones each time."""

    def __init__(self, seed):
        self.state = seed

    def below(self, most):
        self.state = (self.state * 1103515245 + 12345) % 2 ** 31
        return (self.state >> 10) % most


class Looks(unittest.TestCase):

    def stands(self, bench, size, first, letters, steps):
        """What must hold of a bench."""
        self.assertEqual(bench.first, Word(size, first))
        self.assertEqual(bench.word, Word(size, letters))
        self.assertEqual(bench.steps(), tuple(steps))
        self.assertIs(type(bench.steps()), tuple)
        self.assertEqual(len(bench), len(steps))

    def likewise(self, bench, plain):
        self.stands(bench, plain.size, plain.first, plain.word(), plain.done)

    def all_again(self, bench, plain):
        """Both in the same state: what stands, and, in a trial, what can be done again."""
        self.likewise(bench, plain)
        with bench.trial():
            for step in plain.undone[::-1]:
                self.assertEqual(bench.redo(), step)
            refusal(self, NothingLeft, bench.redo)
        self.likewise(bench, plain)


class Steps(Looks):

    def test_where_they_stand(self):
        for name in ("Bench", "tried"):
            self.assertEqual(getattr(bench_module, name).__module__, "liftwords.bench")
        for name in ("word", "__len__", "steps", "do", "do_all", "undo", "redo", "is_alike", "back", "trial", "__eq__"):
            self.assertIn(name, vars(Bench))
        self.assertIsInstance(vars(Bench)["word"], property)

    def test_example(self):
        word = Word(3, [1, 2, 1])
        bench = Bench(word)
        self.assertIs(bench.first, word)
        self.stands(bench, 3, (1, 2, 1), (1, 2, 1), [])
        self.assertEqual(bench.do(1), Word(3, [2, 2, 1]))
        self.assertEqual(bench.do(("in", 3)), Word(3, [2, 2, 1, 3, 2, 1]))
        self.assertEqual(bench.do_all([-1, ("out", 3)]), Word(3, [1, 2, 1]))
        self.stands(bench, 3, (1, 2, 1), (1, 2, 1), [1, ("in", 3), -1, ("out", 3)])
        self.assertEqual(bench.undo(), ("out", 3))
        self.assertEqual(bench.undo(), -1)
        self.assertEqual(bench.word, Word(3, [2, 2, 1, 3, 2, 1]))
        self.assertEqual(bench.redo(), -1)
        self.assertEqual(bench.back(), 3)
        self.stands(bench, 3, (1, 2, 1), (1, 2, 1), [])
        self.assertEqual([bench.redo() for _ in range(4)], [1, ("in", 3), -1, ("out", 3)])
        refusal(self, NothingLeft, bench.redo)

    def pick(self, size, numbers):
        if numbers.below(2):
            return (1 + numbers.below(size - 1)) * (1 - 2 * numbers.below(2))
        return KINDS[numbers.below(4)], numbers.below(12)

    def test_against_lists(self):
        told = {BadMove: 0, Stuck: 0, TooGreat: 0, None: 0}
        for size in SIZES:
            for number, letters in enumerate(((), (1, 2), (2, 1, 2, 1, 1), *list(long_letters(size))[-6:])):
                numbers = Numbers(100 * size + number)
                bench, plain = Bench(Word(size, letters)), PlainBench(size, letters)
                for turn in range(60):
                    self.one_turn(size, bench, plain, numbers, told)
                    self.likewise(bench, plain)
                    self.assertIs(bench.is_alike(), alike(Word(size, letters), Word(size, plain.word())))
                self.all_again(bench, plain)
        self.assertGreater(min(told.values()), 20, told)

    def one_turn(self, size, bench, plain, numbers, told):
        deed = numbers.below(10)
        if deed < 5:
            steps = [self.pick(size, numbers) for _ in range(1 if deed < 4 else numbers.below(4))]
            call = (lambda: bench.do(steps[0])) if deed < 4 else lambda: bench.do_all(steps if deed % 2 else tuple(steps))
            found = plain.do_all(steps)
            if found and not isinstance(found[0], int):
                told[found[0]] += 1
                self.assertEqual(told_place(refusal(self, found[0], call)), found[1])
                self.all_again(bench, plain)
            else:
                told[None] += 1
                self.assertEqual(call(), Word(size, found))
        elif deed < 7:
            if plain.done:
                step = plain.done.pop()
                plain.undone.append(step)
                self.assertEqual(bench.undo(), step)
            else:
                refusal(self, NothingLeft, bench.undo)
        elif deed < 9:
            if plain.undone:
                step = plain.undone.pop()
                plain.done.append(step)
                self.assertEqual(bench.redo(), step)
            else:
                refusal(self, NothingLeft, bench.redo)
        elif numbers.below(3) == 0:
            self.assertEqual(bench.back(), len(plain.done))
            plain.undone += plain.done[::-1]
            plain.done = []

    def test_steps_are_new(self):
        bench = Bench(Word(3, [1, 1]))
        before = bench.steps()
        given = [1, 1]
        bench.do_all(given)
        given.append(7)
        given[0] = 5
        self.assertEqual(before, ())
        self.assertEqual(bench.steps(), (1, 1))
        self.assertEqual(bench.undo(), 1)

    def test_a_new_step_ends_what_can_be_done_again(self):
        for call in (lambda: bench.do(2), lambda: bench.do(("in", 0)), lambda: bench.do_all([2]),
                     lambda: bench.do_all((("in", 0), ("out", 0)))):
            bench = Bench(Word(3, [1, 1, 2]))
            bench.do_all([1, 1])
            bench.undo()
            call()
            refusal(self, NothingLeft, bench.redo)

    def test_no_steps_end_nothing(self):
        bench = Bench(Word(3, [1, 1]))
        bench.do_all([1, 1])
        bench.undo()
        for steps in ([], ()):
            self.assertEqual(bench.do_all(steps), Word(3, [1, 2]))
        self.assertEqual(bench.redo(), 1)
        self.assertEqual(bench.steps(), (1, 1))

    def test_nothing_left(self):
        bench = Bench(Word(2, []))
        for _ in range(2):
            refusal(self, NothingLeft, bench.undo)
            refusal(self, NothingLeft, bench.redo)
            self.assertEqual(bench.back(), 0)
        bench.do(("in", 0))
        refusal(self, NothingLeft, bench.redo)
        bench.undo()
        refusal(self, NothingLeft, bench.undo)
        self.assertEqual(bench.redo(), ("in", 0))

    def test_is_alike(self):
        bench = Bench(Word(3, [1, 2, 1]))
        for step, wanted in ((("first", 0), True), (("in", 1), True), (1, False), (-1, True), (("out", 1), True)):
            bench.do(step)
            self.assertIs(bench.is_alike(), wanted)

    def test_two_benches_of_one_word(self):
        word = Word(3, [1, 1])
        one, other = Bench(word), Bench(word)
        one.do(1)
        self.stands(other, 3, (1, 1), (1, 1), [])
        other.do_all([1, 2])
        one.undo()
        self.stands(other, 3, (1, 1), (1, 3), [1, 2])
        refusal(self, NothingLeft, other.redo)
        self.assertEqual(word, Word(3, [1, 1]))


class Refusals(Looks):

    def bench(self):
        """A bench on which two steps stand, and one can be done again."""
        bench = Bench(Word(3, [1, 1, 2]))
        bench.do_all([2, ("in", 1), 1])
        bench.undo()
        return bench

    def refuses(self, call, error, place, bench):
        before = bench.word, bench.steps()
        self.assertEqual(told_place(refusal(self, error, call)), place)
        self.assertEqual((bench.word, bench.steps()), before)
        self.assertEqual(bench.redo(), 1)
        refusal(self, NothingLeft, bench.redo)
        bench.undo()

    def test_no_steps(self):
        for value in NO_STEPS:
            bench = self.bench()
            self.refuses(lambda: bench.do(value), BadDeed, None, bench)
            self.refuses(lambda: bench.do_all([value]), BadDeed, 0, bench)
            self.refuses(lambda: bench.do_all((("out", 1), value, None)), BadDeed, 1, bench)

    def test_integers_that_are_no_deeds_or_stuck(self):
        for value in (0, 3, -3, 40, THOUSAND_DIGITS, -THOUSAND_DIGITS):
            bench = self.bench()
            self.refuses(lambda: bench.do(value), BadDeed, 0, bench)
            self.refuses(lambda: bench.do_all([("out", 1), 1, value, -2]), BadDeed, 2, bench)
        bench = self.bench()
        self.assertEqual(bench.word, Word(3, [1, 3, 2, 1, 1, 3]))
        self.refuses(lambda: bench.do(-1), Stuck, 0, bench)
        self.refuses(lambda: bench.do_all((1, -1, -1, 0)), Stuck, 2, bench)

    def test_tuples_that_are_no_moves(self):
        for value in [value for value in NO_MOVES if isinstance(value, tuple)]:
            bench = self.bench()
            self.refuses(lambda: bench.do(value), BadMove, 0, bench)
            self.refuses(lambda: bench.do_all([1, value, 0]), BadMove, 1, bench)
        bench = self.bench()
        for value in (("out", 0), ("first", 1), ("first", 3), ("last", 1), ("last", 4), ("in", 7), ("in", THOUSAND_DIGITS),
                      ("out", 5)):
            self.refuses(lambda: bench.do(value), BadMove, 0, bench)
            self.refuses(lambda: bench.do_all((("in", 0), ("out", 0), value)), BadMove, 2, bench)

    def test_more_than_forty_letters(self):
        bench = Bench(Word(3, [1] * 38))
        bench.do(1)
        bench.undo()
        self.refuses(lambda: bench.do(("in", 0)), TooGreat, 40, bench)
        self.refuses(lambda: bench.do_all([1, ("in", 3)]), TooGreat, 40, bench)
        self.refuses(lambda: bench.do_all([1, ("in", 3), None]), TooGreat, 40, bench)
        self.refuses(lambda: bench.do(("in", 39)), BadMove, 0, bench)
        bench = Bench(Word(2, [1] * 38))
        self.assertEqual(len(bench.do(("in", 38)).letters), 40)

    def test_no_lists_of_steps(self):
        for value in NO_LISTS:
            bench = self.bench()
            self.refuses(lambda: bench.do_all(value), BadDeed, None, bench)

    def test_the_first_step_that_is_refused(self):
        bench = self.bench()
        self.refuses(lambda: bench.do_all([-1, 0, None, ("no", 1)]), Stuck, 0, bench)
        self.refuses(lambda: bench.do_all([1, ("no", 1), 0, -1]), BadMove, 1, bench)
        self.refuses(lambda: bench.do_all([1, None, ("no", 1), -1]), BadDeed, 1, bench)


class Equal(unittest.TestCase):

    def test_by_the_first_word_and_the_steps(self):
        one, other = Bench(Word(3, [1, 1])), Bench(Word(3, (1, 1)))
        self.same(one, other, True)
        one.do(1)
        self.same(one, other, False)
        other.do_all([1, ("in", 0)])
        self.same(one, other, False)
        other.undo()
        self.same(one, other, True)
        other.do_all([-1, 1])
        self.assertEqual(one.word, other.word)
        self.same(one, other, False)
        other.back()
        one.back()
        self.same(one, other, True)
        self.same(one, Bench(Word(4, [1, 1])), False)
        self.same(one, Bench(Word(3, [1])), False)
        self.same(Bench(Word(2, [])), Bench(Word(3, [])), False)

    def same(self, one, other, wanted):
        self.assertIs(one == other, wanted)
        self.assertIs(other == one, wanted)
        self.assertIs(one != other, not wanted)

    def test_other_things(self):
        bench = Bench(Word(3, [1]))
        for value in (*OTHER_KINDS, bench.first, THOUSAND_DIGITS, Table(3, [[1]])):
            self.same(bench, value, False)

    def test_operators_that_are_not_described(self):
        bench = Bench(Word(3, [1]))
        for call in (lambda: bench + bench, lambda: bench < bench, lambda: bench[0], lambda: list(bench),
                     lambda: bench * 2, lambda: 1 in bench, lambda: bench + Word(3, [1]), lambda: Word(3, [1]) + bench):
            self.assertRaises(TypeError, call)


class OwnError(Exception):
    pass


class Trials(Looks):

    def bench(self):
        bench = Bench(Word(3, [1, 1, 2]))
        bench.do_all([2, ("in", 1), 1])
        bench.undo()
        before = PlainBench(3, (1, 1, 2))
        before.done, before.undone = [2, ("in", 1)], [1]
        return bench, before

    def test_the_block_gets_the_bench(self):
        bench, before = self.bench()
        with bench.trial() as same:
            self.assertIs(same, bench)
            self.assertEqual(same.do(-2), Word(3, [1, 3, 2, 1, 1, 2]))
            self.assertEqual(bench.word, same.word)
            refusal(self, NothingLeft, same.redo)
            self.assertEqual(len(bench), 3)
            self.assertEqual(bench.steps(), (2, ("in", 1), -2))
        self.all_again(bench, before)

    def ways(self, bench):
        return (lambda: None, lambda: bench.undo(), lambda: bench.redo(), lambda: bench.back(),
                lambda: bench.do_all([1, -1, ("out", 1)]), lambda: (bench.back(), bench.redo(), bench.do(1)),
                lambda: (bench.redo(), bench.do(-1)), lambda: (bench.undo(), bench.undo(), bench.do(1)))

    def test_what_is_done_in_it(self):
        for number in range(len(self.ways(None))):
            bench, before = self.bench()
            with bench.trial():
                self.ways(bench)[number]()
            self.all_again(bench, before)
            self.assertEqual(bench.redo(), 1)
            self.assertEqual(bench.back(), 3)

    def test_undo_redo_and_back_inside(self):
        bench, before = self.bench()
        with bench.trial():
            self.assertEqual(bench.redo(), 1)
            self.assertEqual(bench.do(-1), bench.word)
            self.assertEqual(bench.undo(), -1)
            self.assertEqual(bench.redo(), -1)
            self.assertEqual(bench.back(), 4)
            self.assertEqual(bench.steps(), ())
            refusal(self, NothingLeft, bench.undo)
            self.assertEqual([bench.redo() for _ in range(4)], [2, ("in", 1), 1, -1])
            self.assertIs(bench.is_alike(), False)
        self.all_again(bench, before)

    def test_exceptions_pass(self):
        for error in (OwnError, KeyError, LiftError, KeyboardInterrupt, StopIteration):
            bench, before = self.bench()
            thrown = error()
            with self.assertRaises(error) as caught:
                with bench.trial() as same:
                    same.back()
                    same.do(1)
                    raise thrown
            self.assertIs(caught.exception, thrown)
            self.all_again(bench, before)
        bench, before = self.bench()
        with self.assertRaises(Stuck) as caught:
            with bench.trial() as same:
                same.do_all([1])
                same.do_all([-1, -1])
        self.assertEqual(caught.exception.place, 1)
        self.all_again(bench, before)

    def test_a_trial_in_a_trial(self):
        bench, before = self.bench()
        with bench.trial():
            bench.do(1)
            bench.do(-1)
            bench.undo()
            inner = PlainBench(3, (1, 1, 2))
            inner.done, inner.undone = [2, ("in", 1), 1], [-1]
            with self.assertRaises(OwnError):
                with bench.trial() as same:
                    self.assertIs(same, bench)
                    with bench.trial():
                        bench.back()
                    bench.do(("out", 1))
                    raise OwnError
            self.all_again(bench, inner)
            bench.back()
        self.all_again(bench, before)

    def test_one_after_another_and_one_trial_twice(self):
        bench, before = self.bench()
        trial = bench.trial()
        bench.redo()
        bench.undo()
        for _ in range(2):
            with trial as same:
                self.assertIs(same, bench)
                bench.do(-2)
                with trial:
                    bench.back()
                self.assertEqual(len(bench), 3)
            self.all_again(bench, before)

    def test_a_step_behind_it_counts(self):
        bench, before = self.bench()
        with bench.trial():
            bench.do(-2)
        bench.do(1)
        self.assertEqual(bench.steps(), (2, ("in", 1), 1))
        refusal(self, NothingLeft, bench.redo)

    def test_return_and_break(self):
        bench, before = self.bench()

        def leave():
            with bench.trial() as same:
                return same.do(1)

        self.assertEqual(leave().letters, plain_deed(before.word(), 1))
        self.all_again(bench, before)
        for _ in range(3):
            with bench.trial():
                bench.do(1)
                break
        self.all_again(bench, before)

    def test_tried(self):
        bench, before = self.bench()
        answer = [1]
        self.assertIs(tried(bench, lambda same: answer), answer)
        self.assertIs(tried(bench, lambda same: same), bench)
        self.assertEqual(tried(bench, lambda same: (same.back(), same.steps())), (2, ()))
        self.assertEqual(tried(bench, Bench.redo), 1)
        self.assertIsNone(tried(bench, lambda same: None))
        self.all_again(bench, before)
        with self.assertRaises(OwnError):
            tried(bench, self.throws)
        self.all_again(bench, before)
        refusal(self, NothingLeft, tried, bench, lambda same: [same.undo() for _ in range(3)])
        self.all_again(bench, before)
        self.assertEqual(tried(bench, lambda same: tried(same, len) + len(same)), 4)

    def throws(self, bench):
        bench.do(1)
        raise OwnError


class Calls(unittest.TestCase):

    def test_by_names(self):
        bench = Bench(word=Word(3, [1, 1]))
        self.assertEqual(bench.do(step=1), Word(3, [1, 2]))
        self.assertEqual(bench.do_all(steps=[2]), Word(3, [1, 3]))
        self.assertEqual(tried(function=len, bench=bench), 2)

    def test_what_was_passed_stays(self):
        word, steps = Word(3, [1, 1]), [1, ("in", 0)]
        Bench(word).do_all(steps)
        self.assertEqual((word, steps), (Word(3, [1, 1]), [1, ("in", 0)]))

    def test_many_steps(self):
        for size in (2, 6):
            bench = Bench(Word(size, [1] * 40))
            bench.do_all([1, -1] * 2000)
            for _ in range(1000):
                bench.do(1)
                bench.do(-1)
            self.assertEqual(len(bench), 6000)
            self.assertEqual(bench.word, bench.first)
            self.assertEqual(bench.back(), 6000)
            self.assertEqual([bench.redo() for _ in range(6000)], [1, -1] * 3000)
            self.assertIs(bench.is_alike(), True)

    def test_a_step_costs_the_same_behind_many(self):
        # Lines, not seconds: about ten million lines are run in a second.
        bench = Bench(Word(6, [1] * 40))
        few = lines_run(lambda: bench.do_all([1, -1]))
        bench.do_all([1, -1] * 2000)
        self.assertLessEqual(lines_run(lambda: bench.do_all([1, -1])), few)
        for call in (bench.undo, bench.redo, lambda: len(bench), lambda: bench.word, lambda: tried(bench, len)):
            self.assertLess(lines_run(call), 40)
        self.assertLess(lines_run(bench.back), 50000)


if __name__ == "__main__":
    unittest.main()
