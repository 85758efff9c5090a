import unittest

from liftwords import words
from liftwords.errors import BadIndex, BadLetters, BadNumber, BadSize, OtherSize, Stuck, TooGreat
from liftwords.words import Word
from tests.plain import (OTHER_KINDS, SIZES, THOUSAND_DIGITS, long_letters, plain_down, plain_ends_say_top, plain_pairs,
                         plain_spare, plain_times, plain_up, refusal, samples, short_letters)

NO_SIZES = (*OTHER_KINDS, 1, 7, 0, -1, -2, -3, 40, THOUSAND_DIGITS, -THOUSAND_DIGITS)


class Making(unittest.TestCase):

    def test_bounds(self):
        self.assertEqual(words.MOST_SIZE, 6)
        self.assertEqual(words.MOST_LETTERS, 40)
        self.assertEqual(Word.__module__, "liftwords.words")

    def test_fields(self):
        for size in SIZES:
            for letters in ((), (1,), (size,), (1, size) * 20):
                for given in (letters, list(letters)):
                    word = Word(size, given)
                    self.assertEqual(word.size, size)
                    self.assertEqual(word.letters, letters)
                    self.assertIs(type(word.letters), tuple)
                    self.assertEqual(given, type(given)(letters))

    def test_by_names(self):
        self.assertEqual(Word(letters=[1, 3], size=3).letters, (1, 3))

    def test_later_changes_of_the_list(self):
        letters = [1, 2, 3]
        word = Word(3, letters)
        letters[0] = 3
        letters.append(1)
        self.assertEqual(word.letters, (1, 2, 3))

    def test_bad_size(self):
        for size in NO_SIZES:
            with self.subTest(size):
                self.assertIs(refusal(self, BadSize, Word, size, [1]).value, size)
                self.assertIs(refusal(self, BadSize, Word, size, None).value, size)
                self.assertIs(refusal(self, BadSize, Word, size, [0] * 41).value, size)

    def test_letters_of_another_kind(self):
        for letters in (None, True, 0, 5, "12", "", b"\x01", {1: 1}, {1, 2}, range(3), object(), Word(3, [1]), iter([1]),
                        THOUSAND_DIGITS):
            with self.subTest(letters):
                self.assertIsNone(refusal(self, BadLetters, Word, 3, letters).place)

    def test_too_many_letters(self):
        for letters in ([1] * 41, (1,) * 41, [1] * 1000, [0] + [1] * 40, [None] * 41, [1] * 40 + ["x"]):
            self.assertEqual(refusal(self, TooGreat, Word, 3, letters).most, 40)

    def test_bad_letters(self):
        for size in SIZES:
            for wrong in (*OTHER_KINDS, 0, size + 1, -1, -size, THOUSAND_DIGITS, -THOUSAND_DIGITS):
                with self.subTest(size, wrong=wrong):
                    self.assertEqual(refusal(self, BadLetters, Word, size, [wrong]).place, 0)
                    self.assertEqual(refusal(self, BadLetters, Word, size, (1, 2, wrong, 1, wrong, 0)).place, 2)
                    self.assertEqual(refusal(self, BadLetters, Word, size, [1] * 39 + [wrong]).place, 39)


class Reading(unittest.TestCase):

    def test_length_and_letters(self):
        for letters in ((), (2,), (3, 1, 2), (1, 2, 3, 3) * 10):
            word = Word(3, letters)
            self.assertEqual(len(word), len(letters))
            self.assertEqual([word[place] for place in range(len(word))], list(letters))

    def test_bad_places(self):
        for letters in ((), (2,), (3, 1, 2)):
            word = Word(3, letters)
            for place in (*OTHER_KINDS, -1, -len(letters), len(letters), len(letters) + 1, THOUSAND_DIGITS,
                          -THOUSAND_DIGITS, slice(0, 0), (0, 0), [0]):
                if place == 0 and type(place) is int:
                    continue
                with self.subTest(letters, place=place):
                    self.assertIs(refusal(self, BadNumber, lambda: word[place]).value, place)

    def test_not_iterated_over(self):
        word = Word(3, [1, 2])
        for call in (list, tuple, iter, set, sorted, sum, lambda it: [x for x in it], lambda it: 1 in it,
                     lambda it: [*it], lambda it: [] + [x for x in zip(it, it)]):
            self.assertRaises(TypeError, call, word)

    def test_counts(self):
        self.assertEqual(Word(3, [3, 1, 1]).counts(), (2, 0, 1))
        self.assertEqual(Word(6, []).counts(), (0,) * 6)
        for size in SIZES:
            for letters in samples(size):
                counts = Word(size, letters).counts()
                self.assertIs(type(counts), tuple)
                self.assertEqual(counts, tuple(letters.count(x) for x in range(1, size + 1)))


class Operators(unittest.TestCase):

    def test_sum(self):
        one, other = Word(3, [1, 2]), Word(3, [3])
        self.assertEqual((one + other).letters, (1, 2, 3))
        self.assertEqual((other + one).letters, (3, 1, 2))
        self.assertEqual((one + other).size, 3)
        self.assertEqual((one + Word(3, [])).letters, (1, 2))
        self.assertEqual((Word(3, []) + Word(3, [])).letters, ())
        self.assertEqual((one.letters, other.letters), ((1, 2), (3,)))

    def test_sum_in_place_makes_a_new_word(self):
        one = kept = Word(3, [1, 2])
        one += Word(3, [3])
        self.assertEqual((one.letters, kept.letters), ((1, 2, 3), (1, 2)))

    def test_sum_of_40_and_41(self):
        self.assertEqual((Word(2, [1] * 25) + Word(2, [2] * 15)).letters, (1,) * 25 + (2,) * 15)
        self.assertEqual(len(Word(2, [1] * 40) + Word(2, [])), 40)
        for one, other in ((25, 16), (1, 40), (40, 1), (40, 40)):
            self.assertEqual(refusal(self, TooGreat, lambda: Word(2, [1] * one) + Word(2, [2] * other)).most, 40)

    def test_sum_of_other_sizes(self):
        for one, other in (((2, [1]), (3, [1])), ((3, []), (2, [])), ((6, [1] * 40), (5, [1] * 40))):
            refusal(self, OtherSize, lambda: Word(*one) + Word(*other))

    def test_times(self):
        word = Word(3, [2, 1])
        for times in (0, 1, 2, 7, 20):
            self.assertEqual((word * times).letters, (2, 1) * times)
            self.assertEqual((word * times).size, 3)
        self.assertEqual(word.letters, (2, 1))
        for times in (21, 22, 41, THOUSAND_DIGITS):
            self.assertEqual(refusal(self, TooGreat, lambda: word * times).most, 40)
        self.assertEqual(len(Word(3, [1]) * 40), 40)
        self.assertEqual(refusal(self, TooGreat, lambda: Word(3, [1]) * 41).most, 40)

    def test_no_letters_any_number_of_times(self):
        for times in (0, 1, 41, 2 ** 63, 2 ** 64, THOUSAND_DIGITS):
            self.assertEqual(Word(4, []) * times, Word(4, []))

    def test_bad_times(self):
        for letters in ([], [1], [1] * 40):
            for times in (*OTHER_KINDS, -1, -2, -THOUSAND_DIGITS, Word(3, [1])):
                with self.subTest(letters, times=times):
                    self.assertIs(refusal(self, BadNumber, lambda: Word(3, letters) * times).value, times)

    def test_other_values_beside_operators(self):
        word = Word(3, [1, 2])
        for value in (*OTHER_KINDS, 0, 1, -1, THOUSAND_DIGITS):
            with self.subTest(value):
                self.assertRaises(TypeError, lambda: word + value)
                self.assertRaises(TypeError, lambda: value + word)
                self.assertRaises(TypeError, lambda: value * word)
                self.assertRaises(TypeError, lambda: word - value)
                self.assertRaises(TypeError, lambda: word < value)
                self.assertRaises(TypeError, lambda: word >= value)
        self.assertRaises(TypeError, lambda: word < Word(3, [2]))
        self.assertRaises(TypeError, lambda: -word)

    def test_equal(self):
        self.assertTrue(Word(3, [1, 2]) == Word(3, (1, 2)))
        self.assertFalse(Word(3, [1, 2]) != Word(3, (1, 2)))
        self.assertTrue(Word(2, []) == Word(2, []))
        for other in (Word(4, [1, 2]), Word(3, [1]), Word(3, [2, 1]), Word(3, [1, 2, 1]), Word(3, [])):
            self.assertFalse(Word(3, [1, 2]) == other)
            self.assertTrue(Word(3, [1, 2]) != other)
        self.assertFalse(Word(2, []) == Word(3, []))

    def test_not_equal_to_other_kinds(self):
        word = Word(3, [1, 2])
        for value in (*OTHER_KINDS, 3, (3, (1, 2)), [1, 2], "3:12"):
            self.assertIs(word == value, False)
            self.assertIs(value == word, False)
            self.assertIs(word != value, True)
            self.assertIs(value != word, True)


class Brackets(unittest.TestCase):

    def test_examples(self):
        word = Word(3, [1, 2, 2, 1, 3, 1, 1, 2])
        self.assertEqual(word.pairs(1), ((1, 5), (2, 3)))
        self.assertEqual(word.spare(1), ((0, 6), (7,)))
        self.assertEqual((word.ups(1), word.downs(1)), (2, 1))
        self.assertEqual(word.up(1).letters, (1, 2, 2, 1, 3, 1, 2, 2))
        self.assertEqual(word.down(1).letters, (1, 2, 2, 1, 3, 1, 1, 1))
        self.assertEqual(word.pairs(2), ((4, 7),))
        self.assertEqual(word.spare(2), ((1, 2), ()))

    def test_against_the_plain_reading(self):
        for size in SIZES:
            for letters in samples(size):
                word = Word(size, letters)
                for i in range(1, size):
                    with self.subTest(size, letters=letters, i=i):
                        self.assertEqual(word.pairs(i), plain_pairs(letters, i))
                        self.assertEqual(word.spare(i), plain_spare(letters, i))
                        self.assertEqual(word.ups(i), plain_times(letters, i))
                        self.assertEqual(word.downs(i), plain_times(letters, -i))
                self.assertEqual(word, Word(size, letters))

    def test_left_over_in_order(self):
        for letters in samples(3):
            lows, highs = Word(3, letters).spare(2)
            self.assertEqual(list(lows + highs), sorted(lows + highs))

    def test_up_and_down_against_the_plain_reading(self):
        for size in SIZES:
            for letters in samples(size):
                word = Word(size, letters)
                for i in range(1, size):
                    self.step(word, word.up, i, plain_up(letters, i))
                    self.step(word, word.down, i, plain_down(letters, i))
                self.assertEqual(word.letters, letters)

    def step(self, word, deed, i, wanted):
        with self.subTest(word.letters, i=i):
            if wanted is None:
                self.assertEqual(refusal(self, Stuck, deed, i).place, 0)
            else:
                self.assertEqual(deed(i).letters, wanted)
                self.assertEqual(deed(i).size, word.size)

    def test_up_and_down_take_each_other_back(self):
        for size in SIZES:
            for letters in samples(size):
                word = Word(size, letters)
                for i in range(1, size):
                    if word.ups(i):
                        self.assertEqual(word.up(i).down(i), word)
                    if word.downs(i):
                        self.assertEqual(word.down(i).up(i), word)

    def test_kinds_of_values(self):
        word = Word(2, [2, 2, 1, 1])
        self.assertIs(type(word.pairs(1)), tuple)
        self.assertIs(type(word.pairs(1)[0]), tuple)
        self.assertEqual([type(part) for part in word.spare(1)], [tuple, tuple])
        self.assertIs(type(word.spare(1)), tuple)
        self.assertEqual(Word(2, []).spare(1), ((), ()))
        self.assertEqual(Word(2, []).pairs(1), ())

    def test_bad_index_ahead_of_stuck(self):
        for size in SIZES:
            for letters in ([], [1, size]):
                word = Word(size, letters)
                for call in (word.pairs, word.spare, word.ups, word.downs, word.up, word.down):
                    for i in (*OTHER_KINDS, 0, size, size + 1, -1, 1 - size, THOUSAND_DIGITS, -THOUSAND_DIGITS):
                        self.assertIs(refusal(self, BadIndex, call, i).value, i)

    def test_index_by_name(self):
        word = Word(3, [1, 3, 2])
        self.assertEqual(word.pairs(i=2), word.pairs(2))
        self.assertEqual(word.spare(i=2), word.spare(2))
        self.assertEqual(word.ups(i=1), word.ups(1))
        self.assertEqual(word.downs(i=1), word.downs(1))
        self.assertEqual(word.up(i=1), word.up(1))
        self.assertEqual(word.down(i=1), word.down(1))

    def test_equal_calls_give_equal_results(self):
        word = Word(3, [1, 3, 2, 2, 1])
        for call in (word.pairs, word.spare, word.ups, word.downs, word.up):
            self.assertEqual(call(1), call(1))


class TopsAndBottoms(unittest.TestCase):

    def test_examples(self):
        self.assertIs(Word(3, []).is_top(), True)
        self.assertIs(Word(3, []).is_bottom(), True)
        self.assertIs(Word(3, [3, 2, 1]).is_top(), True)
        self.assertIs(Word(3, [3, 2, 1]).is_bottom(), True)
        self.assertIs(Word(3, [1, 1]).is_top(), True)
        self.assertIs(Word(3, [1, 1]).is_bottom(), False)
        self.assertIs(Word(3, [3, 3]).is_top(), False)
        self.assertIs(Word(3, [3, 3]).is_bottom(), True)
        self.assertIs(Word(3, [1, 2]).is_top(), False)
        self.assertIs(Word(3, [1, 2]).is_bottom(), False)

    def test_against_the_plain_reading(self):
        for size in SIZES:
            for letters in samples(size):
                word = Word(size, letters)
                with self.subTest(size, letters=letters):
                    self.assertIs(word.is_top(), all(plain_down(letters, i) is None for i in range(1, size)))
                    self.assertIs(word.is_top(), plain_ends_say_top(letters, size))
                    self.assertIs(word.is_bottom(), all(plain_up(letters, i) is None for i in range(1, size)))

    def test_left_over_of_words_put_together(self):
        for size in SIZES:
            some = [Word(size, letters) for letters in list(short_letters(size))[::7]]
            some += [Word(size, letters) for letters in long_letters(size, 15) if len(letters) <= 20]
            for one in some:
                for other in some[::3]:
                    for i in range(1, size):
                        a, b, c, d = one.ups(i), one.downs(i), other.ups(i), other.downs(i)
                        both = one + other
                        self.assertEqual(both.ups(i), a + c - min(b, c))
                        self.assertEqual(both.downs(i), b + d - min(b, c))


if __name__ == "__main__":
    unittest.main()
