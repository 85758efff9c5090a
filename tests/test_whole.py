"""What the document promises over the whole program."""

import importlib
import inspect
import unittest
from math import factorial

from liftwords.bags import apart, bag_of, bag_of_words
from liftwords.bench import Bench, tried
from liftwords.deeds import to_top
from liftwords.houses import House, house_of, joined_tops, multiplicity
from liftwords.joins import fallen, recordings
from liftwords.mirrors import evacuated, growth_of, mirrored
from liftwords.moves import moves_of
from liftwords.reaches import Reach
from liftwords.tables import bumped
from liftwords.texts import moves_text, read_moves, read_row, read_table, read_word, row_text, table_text, word_text
from liftwords.words import Word
from tests.plain import SIZES, long_letters, samples, short_letters
from tests.plain_bags import falling_counts
from tests.plain_tables import plain_shapes

# By modules, the functions and classes of the interface with the names of their parameters.
INTERFACE = {
    "words": {"Word": "size letters"},
    "deeds": {"run": "word row", "can": "word row", "first_stuck": "word row", "deeds_of": "word",
              "inverse": "size row", "to_top": "word", "to_bottom": "word", "top_of": "word", "bottom_of": "word"},
    "tables": {"Table": "size rows", "inserted": "table letter", "bumped": "word", "recording": "word",
               "word_of": "table rows"},
    "moves": {"moved": "word move", "walked": "word moves", "moves_of": "word", "returned": "moves",
              "to_reading": "word", "to_trimmed": "word"},
    "alike": {"alike": "one other", "paper": "one other", "is_paper": "one other value", "parting": "one other"},
    "houses": {"House": "size shape", "house_of": "word", "joined_tops": "house behind",
               "multiplicity": "house behind shape"},
    "mirrors": {"mirrored": "word", "mirrored_row": "size row", "turned": "word i", "turned_by": "word row",
                "order_of": "size row", "growth_of": "size row", "evacuated": "table"},
    "reaches": {"Reach": "house row", "rows_agree": "size one other", "parting_shape": "size one other"},
    "bags": {"bag_of": "house", "bag_of_words": "words", "added": "size one other", "signed_sum": "size bag counts",
             "apart": "size bag", "bar": "size bag", "is_bar": "size bag value"},
    "joins": {"fallen": "size shapes", "recordings": "shape"},
    "texts": {"word_text": "word", "table_text": "table", "row_text": "size row", "moves_text": "moves",
              "read_word": "text", "read_table": "text", "read_row": "size text", "read_moves": "text"},
    "bench": {"Bench": "word", "tried": "bench function"},
}
# By classes, the methods with the names of their parameters. Python passes what stands beside a sign by position.
METHODS = {
    "words.Word": {"counts": "", "pairs": "i", "spare": "i", "ups": "i", "downs": "i", "up": "i", "down": "i",
                   "is_top": "", "is_bottom": "", "__len__": "", "__eq__": "other", "__add__": "other",
                   "__mul__": "other", "__getitem__": "at"},
    "tables.Table": {"reading": "", "counts": "", "shadow": "letter", "full": "", "trimmed": "", "ups": "i",
                     "downs": "i", "up": "i", "down": "i", "__eq__": "other"},
    "houses.House": {"count": "", "top": "", "bottom": "", "number_of": "table", "table_at": "number", "tables": "",
                     "how_many": "counts", "rank": "table", "between": "start goal", "__eq__": "other",
                     "__contains__": "x"},
    "reaches.Reach": {"far_end": "", "has": "value", "path": "table", "rest": "table", "count": "", "each": "",
                      "least_row": "", "within": "other", "parted": "other", "__eq__": "other"},
    "bench.Bench": {"steps": "", "do": "step", "do_all": "steps", "undo": "", "redo": "", "is_alike": "", "back": "",
                    "trial": "", "__len__": "", "__eq__": "other"},
}


class Interface(unittest.TestCase):

    def parameters(self, call):
        told = inspect.signature(call).parameters.values()
        self.assertTrue(all(one.kind == one.POSITIONAL_OR_KEYWORD and one.default is one.empty for one in told))
        return " ".join(one.name for one in told)

    def test_functions_and_classes(self):
        for module, names in INTERFACE.items():
            for name, wanted in names.items():
                found = getattr(importlib.import_module("liftwords." + module), name)
                self.assertEqual(found.__module__, "liftwords." + module)
                self.assertEqual(self.parameters(found), wanted, name)

    def test_methods(self):
        for owner, names in METHODS.items():
            module, name = owner.split(".")
            found = getattr(importlib.import_module("liftwords." + module), name)
            for method, wanted in names.items():
                self.assertEqual(self.parameters(vars(found)[method]), ("self " + wanted).strip(), method)

    def test_numbers_that_have_names(self):
        words, houses = (importlib.import_module("liftwords." + name) for name in ("words", "houses"))
        self.assertEqual((words.MOST_SIZE, words.MOST_LETTERS, houses.MOST_TABLES), (6, 40, 3000))


class Facts(unittest.TestCase):

    def test_tables_and_recordings_are_all_words(self):
        for size in SIZES:
            for many in (*range(9), 20, 40):
                if size > 4 and many == 40:
                    many = 30
                shapes = [shape for shape in falling_counts(size, many)]
                total = 0
                for lengths in shapes:
                    shape = tuple(length for length in lengths if length)
                    total += recordings(shape) * House(size, shape).count()
                self.assertEqual(total, size ** many)

    def test_recordings_squared_are_all_orders(self):
        for many in range(7):
            shapes = [shape for shape in plain_shapes(6, many) if sum(shape) == many]
            self.assertEqual(sum(recordings(shape) ** 2 for shape in shapes), factorial(many))

    def test_the_bag_of_all_words_of_a_length(self):
        for size in SIZES:
            for many in range(4 if size < 5 else 3):
                words = [Word(size, letters) for letters in short_letters(size) if len(letters) == many]
                wanted = {shape: recordings(shape) for shape in sorted(plain_shapes(size, many))
                          if sum(shape) == many}
                self.assertEqual(apart(size, bag_of_words(words)), wanted)
                self.assertEqual(fallen(size, [(1,)] * many), wanted)

    def test_a_bag_is_what_how_many_tells(self):
        for size, shape in ((2, (12, 3)), (3, (7, 3, 1)), (4, (4, 2)), (5, (3, 1, 1)), (6, (2, 2)), (6, (3, 3, 2, 1, 1, 1))):
            house = House(size, shape)
            told = bag_of(house)
            self.assertEqual(sum(told.values()), house.count())
            for counts, many in told.items():
                self.assertEqual(house.how_many(counts), many)

    def test_joined_houses(self):
        for size, one, other in ((2, (6, 1), (4, 3)), (3, (4, 1), (3, 2, 1)), (4, (3, 1), (2, 2, 1)),
                                 (5, (2, 2), (3, 1)), (6, (2, 1, 1), (2, 2))):
            told = fallen(size, [one, other])
            tops = joined_tops(House(size, other), House(size, one))
            self.assertEqual(told, {shape: len(tables) for shape, tables in tops.items()})
            for shape, many in told.items():
                self.assertEqual(multiplicity(House(size, one), House(size, other), shape), many)

    def test_mirrored_words(self):
        for size in SIZES:
            for letters in samples(size):
                word = Word(size, letters)
                house = house_of(word)
                self.assertEqual(house_of(mirrored(word)), house)
                table = bumped(word)
                self.assertEqual(house.rank(table) + house.rank(evacuated(table)), house.rank(house.bottom()))
                self.assertEqual(house.rank(table), len(to_top(word)))

    def test_the_longest_growth(self):
        for size in SIZES:
            row = [i for first in range(1, size) for i in range(first, 0, -1)]
            self.assertEqual(growth_of(size, row), tuple(range(size, 0, -1)))
            for shape in ((3,), (2, 1), (1,) * size):
                house = House(size, shape)
                reach = Reach(house, row)
                self.assertEqual(reach.count(), house.count())
                self.assertEqual(reach.far_end(), house.bottom())
                self.assertTrue(all(reach.has(table) for table in house.tables()))

    def test_texts_of_what_is_told(self):
        for size in SIZES:
            for letters in long_letters(size, 6):
                word = Word(size, letters)
                self.assertEqual(read_word(word_text(word)), word)
                self.assertEqual(read_table(table_text(bumped(word))), bumped(word))
                self.assertEqual(read_row(size, row_text(size, to_top(word))), to_top(word))
                self.assertEqual(read_moves(moves_text(moves_of(word))), moves_of(word))

    def test_trials_of_moves(self):
        for size in SIZES:
            for letters in long_letters(size, 6):
                bench = Bench(Word(size, letters))
                for move in moves_of(bench.word):
                    self.assertIs(tried(bench, lambda same: same.do(move) == bench.first or same.is_alike()), True)
                self.assertEqual(len(bench), 0)


if __name__ == "__main__":
    unittest.main()
