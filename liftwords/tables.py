"""Tables, and the table and the recording that a word has."""

from liftwords.errors import BadLetters, BadNumber, BadRecording, BadTable, TooGreat
from liftwords.kinds import is_between, is_listing, is_whole
from liftwords.words import MOST_LETTERS, Word, check_size


def stands_below(size, row, above):
    """Whether a row can stand in a table of the size below another one."""
    if not row or len(row) > len(above):
        return False
    least = 1
    for letter, high in zip(row, above):
        if not is_between(letter, max(least, high + 1), size):
            return False
        least = letter
    return True


def is_rows(value):
    """Whether a value is a list or tuple of lists or tuples."""
    return is_listing(value) and all([is_listing(row) for row in value])


def check_rows(size, rows):
    """Refuse any value that is not the rows of a table of the size."""
    if not is_rows(rows):
        raise BadTable(None)
    if sum([len(row) for row in rows]) > MOST_LETTERS:
        raise TooGreat(MOST_LETTERS)
    # Nothing limits the first row: it stands below letters that are less than all others.
    above = [0] * MOST_LETTERS
    for number, row in enumerate(rows):
        if not stands_below(size, row, above):
            raise BadTable(number)
        above = row


def lengths(rows):
    """How long each row is."""
    return tuple([len(row) for row in rows])


def cut(letters, shape):
    """The rows of a shape whose reading has these letters."""
    rows = []
    end = len(letters)
    for length in shape:
        rows.append(letters[end - length:end])
        end -= length
    return rows


class Table:
    """A table: its size, its rows as a tuple of tuples, and its shape. It never changes."""

    def __init__(self, size, rows):
        check_size(size)
        check_rows(size, rows)
        self.size = size
        self.rows = tuple([tuple(row) for row in rows])
        self.shape = lengths(self.rows)

    def __eq__(self, other):
        return isinstance(other, Table) and self.size == other.size and self.rows == other.rows

    def reading(self):
        """The word that has the letters of the last row, then those of the row above, and so on."""
        return Word(self.size, [letter for row in self.rows[::-1] for letter in row])

    def counts(self):
        """How often the table has each letter, from 1 to the size."""
        return self.reading().counts()

    def shadow(self, letter):
        """How many letters of each row are not greater than a letter, 0 for rows that are not there."""
        if not is_between(letter, 1, self.size):
            raise BadNumber(letter)
        numbers = [count_up_to(row, letter) for row in self.rows]
        return tuple(numbers + [0] * (self.size - len(numbers)))

    def full(self):
        """How many columns have as many letters as the size says."""
        if len(self.rows) < self.size:
            return 0
        return self.shape[-1]

    def trimmed(self):
        """The table without its full columns."""
        many = self.full()
        return Table(self.size, [row[many:] for row in self.rows if len(row) > many])

    def ups(self, i):
        """How many times up at i can be done, one after another."""
        return self.reading().ups(i)

    def downs(self, i):
        """How many times down at i can be done, one after another."""
        return self.reading().downs(i)

    def up(self, i):
        """The table whose reading comes of up at i."""
        return Table(self.size, cut(self.reading().up(i).letters, self.shape))

    def down(self, i):
        """The table whose reading comes of down at i."""
        return Table(self.size, cut(self.reading().down(i).letters, self.shape))


def count_up_to(row, letter):
    """How many letters of a row are not greater than a letter: the others stand behind them."""
    return len([held for held in row if held <= letter])


def put_in(rows, letter):
    """Insert a letter into rows (tuples): the rows that come, and the number of the one that has grown."""
    rows = list(rows)
    number = 0
    while number < len(rows) and rows[number][-1] > letter:
        row = rows[number]
        at = count_up_to(row, letter)
        rows[number] = row[:at] + (letter,) + row[at + 1:]
        letter = row[at]
        number += 1
    if number == len(rows):
        rows.append(())
    rows[number] = rows[number] + (letter,)
    return rows, number


def take_out(rows, number):
    """Take out the letter with whose insertion a row grew last: the rows that are left, and the letter."""
    rows = list(rows)
    letter = rows[number][-1]
    rows[number] = rows[number][:-1]
    while number > 0:
        number -= 1
        row = rows[number]
        at = count_up_to(row, letter - 1) - 1
        rows[number] = row[:at] + (letter,) + row[at + 1:]
        letter = row[at]
    return rows, letter


def grown(letters):
    """Insert letters, one after another: the rows that come, and the places at which each row grew."""
    rows = []
    places = []
    for place, letter in enumerate(letters):
        rows, number = put_in(rows, letter)
        if number == len(places):
            places.append(())
        places[number] = places[number] + (place,)
    return rows, places


def inserted(table, letter):
    """The table with a letter inserted, and the number of the row that has grown."""
    if not is_between(letter, 1, table.size):
        raise BadLetters(None)
    rows, number = put_in(table.rows, letter)
    # A table that has become too great is refused where it is made.
    return Table(table.size, rows), number


def bumped(word):
    """The table of a word."""
    return Table(word.size, grown(word.letters)[0])


def recording(word):
    """The recording of a word."""
    return tuple(grown(word.letters)[1])


def ascends(row, above):
    """Whether the items of a row ascend, each of them greater than the one above it."""
    steps = [before < behind for before, behind in zip(row, row[1:])]
    return all(steps + [high < low for high, low in zip(above, row)])


def is_recording(shape, value):
    """Whether a value is a recording of the shape."""
    if not is_rows(value) or lengths(value) != shape:
        return False
    places = [place for row in value for place in row]
    if not all([is_whole(place) for place in places]) or sorted(places) != list(range(len(places))):
        return False
    above = []
    for row in value:
        if not ascends(row, above):
            return False
        above = row
    return True


def word_of(table, rows):
    """The word that has this table and this recording."""
    if not is_recording(table.shape, rows):
        raise BadRecording()
    grew = {place: number for number, row in enumerate(rows) for place in row}
    left = table.rows
    letters = []
    for place in range(len(grew) - 1, -1, -1):
        left, letter = take_out(left, grew[place])
        letters.append(letter)
    return Word(table.size, letters[::-1])
