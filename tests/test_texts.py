import re
import unittest
from itertools import product

from liftwords import texts
from liftwords.errors import BadDeed, BadMove, BadSize, BadTable, BadText, TooGreat
from liftwords.moves import to_trimmed
from liftwords.tables import Table, bumped
from liftwords.texts import (moves_text, read_moves, read_row, read_table, read_word, row_text, table_text,
                             word_text)
from liftwords.words import Word
from tests.plain import OTHER_KINDS, SIZES, THOUSAND_DIGITS, lines_run, long_letters, refusal, samples
from tests.plain_tables import plain_is_table
from tests.test_mirrors import NO_LISTS, no_deeds
from tests.test_moves import NO_MOVES

NO_STRINGS = tuple(value for value in OTHER_KINDS if not isinstance(value, str)) + (
    0, 1, THOUSAND_DIGITS, b"3:12", ["3:12"], ("3:12",), Word(3, [1]), Table(3, []))
# The signs that are put into texts: those that stand in some text, and some that stand in none.
SIGNS = "0123456789:/ ,udfirstlaon\n-+.;|x~!UD"
WORD = "|".join(f"{size}:[1-{size}]*" for size in SIZES)
TABLE = "|".join(f"{size}:([1-{size}]+(/[1-{size}]+)*)?" for size in SIZES)
MOVE = "(first|last|in|out) (0|[1-9][0-9]{0,2})"
MOVES = f"({MOVE}(, {MOVE})*)?"
# What is behind a text that has begun, so that it ends.
ENDS = ("", ":", "2:", "1", "/1", "0", " 0", "t 0", "st 0", "rst 0", "irst 0", "ast 0", "ut 0", "n 0", "first 0",
        " first 0", ", first 0", "u1", " u1")


def row_pattern(size):
    return f"([ud][1-{size - 1}]( [ud][1-{size - 1}])*)?"


def plain_place(pattern, text):
    """The number of the first character at which no text of a pattern goes on, or of characters; None if it is one."""
    pattern = re.compile(pattern)
    for at in range(len(text)):
        if not any(pattern.fullmatch(text[:at + 1] + end) for end in ENDS):
            return at
    return None if pattern.fullmatch(text) else len(text)


def changed(text, step=1):
    """A text with a sign changed, left out, put in, or cut off."""
    yield text
    for at in range(0, len(text) + 1, step):
        yield text[:at]
        yield text[:at] + text[at + 1:]
        yield text[:at] + text[at:at + 1] * 2 + text[at + 1:]
        for sign in SIGNS:
            yield text[:at] + sign + text[at:]
            yield text[:at] + sign + text[at + 1:]


class Writing(unittest.TestCase):

    def test_where_they_stand(self):
        for name in ("word_text", "table_text", "row_text", "moves_text", "read_word", "read_table", "read_row",
                     "read_moves"):
            self.assertEqual(getattr(texts, name).__module__, "liftwords.texts")

    def test_examples(self):
        self.assertEqual(word_text(Word(3, [1, 2, 1, 3])), "3:1213")
        self.assertEqual(word_text(Word(6, [])), "6:")
        self.assertEqual(table_text(Table(3, [[1, 1, 3], [2]])), "3:113/2")
        self.assertEqual(table_text(Table(3, [])), "3:")
        self.assertEqual(row_text(3, [1, -2]), "u1 d2")
        self.assertEqual(row_text(3, []), "")
        self.assertEqual(moves_text([("first", 0), ("in", 12)]), "first 0, in 12")
        self.assertEqual(moves_text(()), "")
        self.assertEqual(moves_text((("last", 9), ("out", 10), ("in", 999))), "last 9, out 10, in 999")

    def test_words_and_back(self):
        for size in SIZES:
            for letters in samples(size):
                text = word_text(Word(size, letters))
                self.assertEqual(text, str(size) + ":" + "".join(map(str, letters)))
                self.assertEqual(read_word(text), Word(size, letters))
                self.assertIs(type(read_word(text)), Word)

    def test_tables_and_back(self):
        for size in SIZES:
            for letters in samples(size):
                table = bumped(Word(size, letters))
                text = table_text(table)
                self.assertEqual(text, str(size) + ":" + "/".join("".join(map(str, row)) for row in table.rows))
                self.assertEqual(read_table(text), table)
                self.assertIs(type(read_table(text)), Table)

    def test_rows_and_back(self):
        for size in SIZES:
            deeds = [deed for deed in range(1 - size, size) if deed]
            for length in range(4 if size < 5 else 3):
                for row in product(deeds, repeat=length):
                    text = row_text(size, row)
                    self.assertEqual(text, " ".join(("u" if deed > 0 else "d") + str(abs(deed)) for deed in row))
                    self.assertEqual(row_text(size, list(row)), text)
                    self.assertEqual(read_row(size, text), row)
                    self.assertIs(type(read_row(size, text)), tuple)
        row = (1, -2, 2, -1) * 250
        self.assertEqual(read_row(3, row_text(3, row)), row)
        self.assertEqual(len(row_text(3, row)), 2999)

    def test_moves_and_back(self):
        kinds = ("first", "last", "in", "out")
        for place in range(1000):
            moves = tuple((kind, place) for kind in kinds[place % 4:] + kinds[:place % 3])
            text = moves_text(moves)
            self.assertEqual(text, ", ".join(kind + " " + str(at) for kind, at in moves))
            self.assertEqual(moves_text(list(moves)), text)
            self.assertEqual(read_moves(text), moves)
            self.assertIs(type(read_moves(text)), tuple)
        for letters in list(long_letters(4))[-5:]:
            moves = to_trimmed(Word(4, letters))
            self.assertEqual(read_moves(moves_text(moves)), moves)

    def test_rows_that_are_refused(self):
        for size in (*OTHER_KINDS, 0, 1, 7, -3, THOUSAND_DIGITS):
            for row in ([1], None, [0]):
                self.assertIs(refusal(self, BadSize, row_text, size, row).value, size)
        for size in SIZES:
            for row in (*NO_LISTS, [1] * 1001, (None,) * 1001):
                self.assertIsNone(refusal(self, BadDeed, row_text, size, row).place)
            for item in no_deeds(size):
                self.assertEqual(refusal(self, BadDeed, row_text, size, [item]).place, 0)
                self.assertEqual(refusal(self, BadDeed, row_text, size, (1, -1, item, 0)).place, 2)

    def test_moves_that_are_refused(self):
        for value in (*NO_MOVES, ("first", 1000), ("in", THOUSAND_DIGITS), ("out", -1), ("last", True), ("u", 1)):
            self.assertEqual(refusal(self, BadMove, moves_text, [value]).place, 0)
            self.assertEqual(refusal(self, BadMove, moves_text, (("in", 999), ("out", 0), value, None)).place, 2)


class Reading(unittest.TestCase):

    def agrees(self, pattern, text, read, behind):
        """A text that fits is dealt with by what is told, another one is refused at its place."""
        place = plain_place(pattern, text)
        if place is None:
            behind(text)
        else:
            self.assertEqual(refusal(self, BadText, read, text).place, place, repr(text))
        return place is None

    def check_word(self, text):
        letters = [int(sign) for sign in text[2:]]
        if len(letters) > 40:
            self.assertEqual(refusal(self, TooGreat, read_word, text).most, 40)
        else:
            self.assertEqual(read_word(text), Word(int(text[0]), letters))

    def check_table(self, text):
        size = int(text[0])
        rows = [[int(sign) for sign in row] for row in text[2:].split("/")] if text[2:] else []
        if sum(map(len, rows)) > 40:
            self.assertEqual(refusal(self, TooGreat, read_table, text).most, 40)
        elif plain_is_table(size, rows):
            self.assertEqual(read_table(text), Table(size, rows))
        else:
            row = refusal(self, BadTable, read_table, text).row
            self.assertTrue(plain_is_table(size, rows[:row]))
            self.assertFalse(plain_is_table(size, rows[:row + 1]))

    def check_row(self, size, text):
        row = tuple(int(deed[1]) * (1 if deed[0] == "u" else -1) for deed in text.split())
        self.assertEqual(read_row(size, text), row)

    def check_moves(self, text):
        moves = [move.split(" ") for move in text.split(", ")] if text else []
        self.assertEqual(read_moves(text), tuple((kind, int(place)) for kind, place in moves))

    def test_changed_words(self):
        told = {True: 0, False: 0}
        for text in ("2:", "3:1213", "6:654321", "4:4", "2:" + "12" * 20, "5:" + "5" * 41):
            for other in changed(text):
                told[self.agrees(WORD, other, read_word, self.check_word)] += 1
        self.assertGreater(min(told.values()), 100)

    def test_changed_tables(self):
        told = {True: 0, False: 0}
        for text in ("2:", "3:113/2", "6:1/2/3/4/5/6", "4:4", "5:1123/234/4", "2:" + "1" * 20 + "/" + "2" * 20):
            for other in changed(text):
                told[self.agrees(TABLE, other, read_table, self.check_table)] += 1
        self.assertGreater(min(told.values()), 100)

    def test_changed_rows(self):
        told = {True: 0, False: 0}
        for size in SIZES:
            for text in ("", "u1", "u1 d1", f"d{size - 1} u1 u{size - 1}", f"u{size}", "u0"):
                for other in changed(text):
                    told[self.agrees(row_pattern(size), other, lambda text: read_row(size, text),
                                     lambda text: self.check_row(size, text))] += 1
        self.assertGreater(min(told.values()), 100)

    def test_changed_moves(self):
        told = {True: 0, False: 0}
        for text in ("", "first 0", "in 12, out 999", "last 10, last 9", "out 100", "first 00", "first 01", "in 1234",
                     "out 0,", "in 1,  in 2", "last 7,out 7", "in 5 "):
            for other in changed(text):
                told[self.agrees(MOVES, other, read_moves, self.check_moves)] += 1
        self.assertGreater(min(told.values()), 100)

    def test_named_edges(self):
        for text, place in (("", 0), ("3", 1), ("7:1", 0), ("1:1", 0), ("3;1", 1), ("3:4", 2), ("3:121 ", 5),
                            ("3:1/2", 3), ("3:0", 2), (" 3:1", 0), ("3:12\n", 4), ("33:1", 1), ("\n", 0)):
            self.assertEqual(refusal(self, BadText, read_word, text).place, place)
        for text, place in (("", 0), ("3", 1), ("3:/", 2), ("3:1/", 4), ("3:1//2", 4), ("3:/1", 2), ("3:1/4", 4),
                            ("3:1 /2", 3), ("3:1/2/", 6), ("3:1/\n", 4), ("0:", 0)):
            self.assertEqual(refusal(self, BadText, read_table, text).place, place)
        for text, place in (("u", 1), ("u1 ", 3), ("u1  d2", 3), (" u1", 0), ("u1d2", 2), ("u3", 1), ("u0", 1),
                            ("x1", 0), ("u1 d3", 4), ("u1\nd2", 2), ("u1 d", 4), ("1", 0), ("u-1", 1), ("u11", 2)):
            self.assertEqual(refusal(self, BadText, read_row, 3, text).place, place)
        for text, place in (("f", 1), ("first", 5), ("first ", 6), ("first 00", 7), ("first 01", 7), ("first 1234", 9),
                            ("first  0", 6), ("first 0,", 8), ("first 0, ", 9), ("first 0,in 0", 8),
                            ("first 0 , in 0", 7), ("firs 0", 4), ("fin 0", 2), ("on 0", 1), ("in -1", 3), ("in a", 3),
                            ("in 0\n", 4), ("in 0, u1", 6), ("First 0", 0), (", in 0", 0), (" ", 0), ("in 1000", 6)):
            self.assertEqual(refusal(self, BadText, read_moves, text).place, place, text)

    def test_no_strings(self):
        for value in NO_STRINGS:
            for read in (read_word, read_table, read_moves, lambda text: read_row(3, text)):
                self.assertIsNone(refusal(self, BadText, read, value).place)

    def test_sizes_first(self):
        for size in (*OTHER_KINDS, 0, 1, 7, -3, THOUSAND_DIGITS):
            for text in ("", "u1", "x", None, 7):
                self.assertIs(refusal(self, BadSize, read_row, size, text).value, size)

    def test_what_is_looked_at_behind(self):
        self.assertEqual(refusal(self, TooGreat, read_word, "3:" + "1" * 41).most, 40)
        self.assertEqual(refusal(self, BadText, read_word, "3:" + "1" * 41 + "4").place, 43)
        self.assertEqual(refusal(self, TooGreat, read_table, "3:" + "/".join("321" * 20)).most, 40)
        self.assertEqual(refusal(self, BadText, read_table, "3:21/" + "1" * 50 + "/").place, 56)
        for text, row in (("3:21", 0), ("3:1/12", 1), ("3:1/1", 1), ("3:12/3/22", 2),
                          ("2:1/2/2", 2), ("2:1/2/1", 2), ("3:3/2/1", 1), ("6:1/2/3/4/5/6/6", 6)):
            self.assertEqual(refusal(self, BadTable, read_table, text).row, row)
        self.assertEqual(len(read_row(2, " ".join(["u1"] * 1000))), 1000)
        self.assertIsNone(refusal(self, BadDeed, read_row, 2, " ".join(["u1"] * 1001)).place)
        self.assertEqual(refusal(self, BadText, read_row, 2, " ".join(["u1"] * 1001) + " ").place, 3003)

    def test_twenty_thousand_characters(self):
        self.assertEqual(refusal(self, TooGreat, read_word, "6:" + "123456" * 3333).most, 40)
        self.assertEqual(refusal(self, TooGreat, read_table, "6:" + "12/3/" * 3999 + "4").most, 40)
        self.assertIsNone(refusal(self, BadDeed, read_row, 6, " ".join(["d5"] * 6667)).place)
        text = ", ".join(["in 999", "out 10", "first 0"] * 750)
        self.assertEqual(read_moves(text), (("in", 999), ("out", 10), ("first", 0)) * 750)
        self.assertEqual(moves_text(read_moves(text)), text)
        self.assertEqual(refusal(self, BadText, read_moves, text + ",").place, len(text) + 1)

    def test_the_work_grows_with_the_text_alone(self):
        # Lines, not seconds: about ten million lines are run in a second.
        for read, text in ((read_word, "6:" + "1" * 19998), (read_table, "6:" + "1/" * 9998 + "11"),
                           (lambda told: read_row(6, told), "u1 " * 6666 + "d5"),
                           (read_moves, "in 1, " * 3332 + "in 1")):
            self.assertLess(lines_run(lambda: self.try_to_read(read, text)), 400000)

    def try_to_read(self, read, text):
        try:
            read(text)
        except (TooGreat, BadDeed):
            pass


class Calls(unittest.TestCase):

    def test_by_names(self):
        self.assertEqual(word_text(word=Word(3, [1])), "3:1")
        self.assertEqual(table_text(table=Table(3, [[1]])), "3:1")
        self.assertEqual(row_text(row=[1], size=3), "u1")
        self.assertEqual(moves_text(moves=[("in", 0)]), "in 0")
        self.assertEqual(read_word(text="3:1"), Word(3, [1]))
        self.assertEqual(read_table(text="3:1"), Table(3, [[1]]))
        self.assertEqual(read_row(text="u1", size=3), (1,))
        self.assertEqual(read_moves(text="in 0"), (("in", 0),))

    def test_what_was_passed_stays(self):
        row, moves = [1, -2], [("in", 0), ("out", 0)]
        self.assertEqual(row_text(3, row), row_text(3, row))
        self.assertEqual(moves_text(moves), moves_text(moves))
        self.assertEqual((row, moves), ([1, -2], [("in", 0), ("out", 0)]))


if __name__ == "__main__":
    unittest.main()
