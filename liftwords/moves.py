"""Moves: exchanges of neighboring letters, and all letters of the size put in or taken out."""

from liftwords.errors import BadMove, TooGreat
from liftwords.kinds import is_listing, is_whole
from liftwords.tables import bumped, count_up_to, put_in
from liftwords.words import MOST_LETTERS, Word

FIRST = "first"
LAST = "last"
IN = "in"
OUT = "out"
# Which kind of move takes each kind back.
BACK = {"first": "first", "last": "last", "in": "out", "out": "in"}


def is_move(value):
    """Whether a value is a move by its form."""
    if not isinstance(value, tuple) or len(value) != 2:
        return False
    kind, place = value
    return isinstance(kind, str) and kind in BACK and is_whole(place) and place >= 0


def column(size):
    """The letters of a full column, as they are read."""
    return tuple(range(size, 0, -1))


def goes_first(letters, place):
    """Whether the first two of the three letters from a place on can be exchanged."""
    if place + 2 >= len(letters):
        return False
    a, b, c = letters[place:place + 3]
    return a <= c < b or b <= c < a


def goes_last(letters, place):
    """Whether the last two of the three letters from a place on can be exchanged."""
    if place + 2 >= len(letters):
        return False
    a, b, c = letters[place:place + 3]
    return b < a <= c or c < a <= b


def goes_out(size, letters, place):
    """Whether a full column stands at a place."""
    return letters[place:place + size] == column(size)


def exchanged(letters, place):
    """The letters with those at a place and behind it exchanged."""
    return letters[:place] + (letters[place + 1], letters[place]) + letters[place + 2:]


def after_move(size, letters, move):
    """The letters that come of a move, or None if it cannot be made."""
    kind, place = move
    if kind == FIRST and goes_first(letters, place):
        return exchanged(letters, place)
    if kind == LAST and goes_last(letters, place):
        return exchanged(letters, place + 1)
    if kind == IN and place <= len(letters):
        return letters[:place] + column(size) + letters[place:]
    if kind == OUT and goes_out(size, letters, place):
        return letters[:place] + letters[place + size:]
    return None


def made(size, letters, move, number):
    """The letters that come of a value if it is a move that can be made; it is refused by its number."""
    after = after_move(size, letters, move) if is_move(move) else None
    if after is None:
        raise BadMove(number)
    if len(after) > MOST_LETTERS:
        raise TooGreat(MOST_LETTERS)
    return after


def walked(word, moves):
    """The word that comes of moves, one after another."""
    if not is_listing(moves):
        raise BadMove(None)
    letters = word.letters
    for number, move in enumerate(moves):
        letters = made(word.size, letters, move, number)
    return Word(word.size, letters)


def moved(word, move):
    """The word that comes of a move."""
    return walked(word, [move])


def moves_of(word):
    """All moves first, last and out that can be made, ascending."""
    letters = word.letters
    return tuple([(FIRST, place) for place in range(len(letters)) if goes_first(letters, place)]
                 + [(LAST, place) for place in range(len(letters)) if goes_last(letters, place)]
                 + [(OUT, place) for place in range(len(letters)) if goes_out(word.size, letters, place)])


def returned(moves):
    """The moves that lead back."""
    return tuple([(BACK[kind], place) for kind, place in moves[::-1]])


def row_moves(row, start, at):
    """The moves by which a letter behind a row, that begins at a place, takes the place of its letter number at."""
    # First the letter goes ahead of all greater ones but the first, then that one to the front.
    return ([(LAST, place) for place in range(start + len(row) - 2, start + at - 1, -1)]
            + [(FIRST, place) for place in range(start + at - 1, start - 1, -1)])


def insertion_moves(rows, letter, start):
    """The moves that insert a letter that stands, at a place, behind the reading of rows."""
    moves = []
    for row in rows:
        start -= len(row)
        at = count_up_to(row, letter)
        if at == len(row):
            return moves
        moves.extend(row_moves(row, start, at))
        letter = row[at]
    return moves


def to_reading(word):
    """Moves first and last that lead to the reading of the table of a word."""
    moves = []
    rows = []
    for place, letter in enumerate(word.letters):
        moves.extend(insertion_moves(rows, letter, place))
        rows = put_in(rows, letter)[0]
    return tuple(moves)


def to_trimmed(word):
    """Moves first, last and out that lead to the reading of the trimmed table of a word."""
    table = bumped(word)
    many = table.full()
    # With the full columns ahead of all other letters the table is the same, so that the moves to its reading
    # lead, turned round, from there to where the columns stand by themselves.
    apart = Word(word.size, column(word.size) * many + table.trimmed().reading().letters)
    return to_reading(word) + returned(to_reading(apart)) + ((OUT, 0),) * many
