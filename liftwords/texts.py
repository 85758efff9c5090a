"""Texts of words, tables, rows of deeds and moves, and how they are read."""

from liftwords.deeds import MOST_DEEDS, check_row
from liftwords.errors import BadDeed, BadMove, BadText
from liftwords.moves import is_move
from liftwords.tables import Table
from liftwords.words import Word, check_size

SIZES = "23456"
LETTERS = "123456"
FIGURES = "0123456789"
MOST_FIGURES = 3
MOST_PLACE = 999
# No two of these words begin with the same character.
KINDS = ("first", "last", "in", "out")


def joined_letters(letters):
    """Letters as figures, one behind another."""
    return "".join([str(letter) for letter in letters])


def word_text(word):
    """The text of a word."""
    return f"{word.size}:{joined_letters(word.letters)}"


def table_text(table):
    """The text of a table."""
    return f"{table.size}:" + "/".join([joined_letters(row) for row in table.rows])


def row_text(size, row):
    """The text of a row of deeds."""
    check_size(size)
    check_row(size, row)
    return " ".join([f"u{deed}" if deed > 0 else f"d{-deed}" for deed in row])


def moves_text(moves):
    """The text of moves."""
    for number, move in enumerate(moves):
        if not is_move(move) or move[1] > MOST_PLACE:
            raise BadMove(number)
    return ", ".join([f"{kind} {place}" for kind, place in moves])


def check_text(text):
    """Refuse any value that is no string."""
    if not isinstance(text, str):
        raise BadText(None)


def stands(text, at, signs):
    """Whether one of some signs stands at a place of a text."""
    return at < len(text) and text[at] in signs


def pass_sign(text, at, signs):
    """The place behind one of some signs, which must stand at a place."""
    if not stands(text, at, signs):
        raise BadText(at)
    return at + 1


def pass_word(text, at, word):
    """The place behind a word, which must stand at a place."""
    for sign in word:
        at = pass_sign(text, at, sign)
    return at


def read_size(text):
    """The size with which a text begins, with a colon behind it."""
    check_text(text)
    pass_sign(text, 0, SIZES)
    pass_sign(text, 1, ":")
    return int(text[0])


def read_word(text):
    """The word of a text."""
    size = read_size(text)
    for at in range(2, len(text)):
        pass_sign(text, at, LETTERS[:size])
    return Word(size, [int(sign) for sign in text[2:]])


def read_table(text):
    """The table of a text."""
    size = read_size(text)
    if len(text) == 2:
        return Table(size, [])
    rows = [[]]
    for at in range(2, len(text)):
        if rows[-1] and text[at] == "/":
            rows.append([])
        else:
            pass_sign(text, at, LETTERS[:size])
            rows[-1].append(int(text[at]))
    if not rows[-1]:
        raise BadText(len(text))
    return Table(size, rows)


def read_row(size, text):
    """The row of deeds of a text, as a tuple."""
    check_size(size)
    check_text(text)
    row = []
    at = 0
    while at < len(text):
        if row:
            at = pass_sign(text, at, " ")
        pass_sign(text, at, "ud")
        pass_sign(text, at + 1, LETTERS[:size - 1])
        row.append(int(text[at + 1]) if text[at] == "u" else -int(text[at + 1]))
        at += 2
    if len(row) > MOST_DEEDS:
        raise BadDeed(None)
    return tuple(row)


def kind_at(text, at):
    """The kind of move whose word begins at a place."""
    for kind in KINDS:
        if stands(text, at, kind[0]):
            return kind
    raise BadText(at)


def pass_number(text, at):
    """The place behind a number, without a needless 0 in front, which must stand at a place."""
    start = at
    at = pass_sign(text, at, FIGURES)
    while text[start] != "0" and at < start + MOST_FIGURES and stands(text, at, FIGURES):
        at += 1
    return at


def read_moves(text):
    """The moves of a text, as a tuple."""
    check_text(text)
    moves = []
    at = 0
    while at < len(text):
        if moves:
            at = pass_word(text, at, ", ")
        kind = kind_at(text, at)
        start = pass_word(text, at, kind + " ")
        at = pass_number(text, start)
        moves.append((kind, int(text[start:at])))
    return tuple(moves)
