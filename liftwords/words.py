"""Words, and the deeds at one index that can be done on them."""

from liftwords.errors import BadIndex, BadLetters, BadNumber, BadSize, OtherSize, Stuck, TooGreat
from liftwords.kinds import is_between, is_listing, is_whole

LEAST_SIZE = 2
MOST_SIZE = 6
MOST_LETTERS = 40


def check_size(size):
    """Refuse any value that is no size."""
    if not is_between(size, LEAST_SIZE, MOST_SIZE):
        raise BadSize(size)


def check_index(size, i):
    """Refuse any value that is no index of the size."""
    if not is_between(i, 1, size - 1):
        raise BadIndex(i)


def check_letters(size, letters):
    """Refuse any value that is not the letters of a word of the size."""
    if not is_listing(letters):
        raise BadLetters(None)
    if len(letters) > MOST_LETTERS:
        raise TooGreat(MOST_LETTERS)
    for place, letter in enumerate(letters):
        if not is_between(letter, 1, size):
            raise BadLetters(place)


def bracketed(letters, i):
    """Read i + 1 and i as brackets: the pairs, the i left over, the i + 1 left over, all by places."""
    opening = i + 1
    pairs = []
    lows = []
    waiting = []
    for place, letter in enumerate(letters):
        if letter == opening:
            waiting.append(place)
        elif letter == i:
            if waiting:
                pairs.append((waiting.pop(), place))
            else:
                lows.append(place)
    return pairs, lows, waiting


def with_letter(word, place, letter):
    """The word that has another letter at one place."""
    return Word(word.size, word.letters[:place] + (letter,) + word.letters[place + 1:])


class Word:
    """A word: its size, and its letters as a tuple. It never changes."""

    def __init__(self, size, letters):
        check_size(size)
        check_letters(size, letters)
        self.size = size
        self.letters = tuple(letters)

    def __len__(self):
        return len(self.letters)

    def __getitem__(self, at):
        if not is_between(at, 0, len(self.letters) - 1):
            raise BadNumber(at)
        return self.letters[at]

    def __iter__(self):
        raise TypeError("a word is not iterated over")

    def __eq__(self, other):
        return isinstance(other, Word) and self.size == other.size and self.letters == other.letters

    def __add__(self, other):
        if not isinstance(other, Word):
            return NotImplemented
        if self.size != other.size:
            raise OtherSize()
        if len(self.letters) + len(other.letters) > MOST_LETTERS:
            raise TooGreat(MOST_LETTERS)
        return Word(self.size, self.letters + other.letters)

    def __mul__(self, other):
        if not is_whole(other) or other < 0:
            raise BadNumber(other)
        if len(self.letters) * other > MOST_LETTERS:
            raise TooGreat(MOST_LETTERS)
        # Python repeats not even an empty tuple as often as a great integer says.
        return Word(self.size, self.letters * min(other, MOST_LETTERS))

    def counts(self):
        """How often the word has each letter, from 1 to the size."""
        numbers = [0] * self.size
        for letter in self.letters:
            numbers[letter - 1] += 1
        return tuple(numbers)

    def pairs(self, i):
        """The places of each i + 1 that has a partner and of the i that is its partner, ascending."""
        check_index(self.size, i)
        # They were found by their closing brackets, but are told by their opening ones.
        return tuple(sorted(bracketed(self.letters, i)[0]))

    def spare(self, i):
        """The places of the i left over, and the places of the i + 1 left over."""
        check_index(self.size, i)
        pairs, lows, highs = bracketed(self.letters, i)
        return tuple(lows), tuple(highs)

    def ups(self, i):
        """How many times up at i can be done, one after another."""
        return len(self.spare(i)[0])

    def downs(self, i):
        """How many times down at i can be done, one after another."""
        return len(self.spare(i)[1])

    def up(self, i):
        """The word in which the last i left over has become i + 1."""
        lows = self.spare(i)[0]
        if not lows:
            raise Stuck(0)
        return with_letter(self, lows[-1], i + 1)

    def down(self, i):
        """The word in which the first i + 1 left over has become i."""
        highs = self.spare(i)[1]
        if not highs:
            raise Stuck(0)
        return with_letter(self, highs[0], i)

    def is_top(self):
        """Whether no down can be done."""
        return not any([self.downs(i) for i in range(1, self.size)])

    def is_bottom(self):
        """Whether no up can be done."""
        return not any([self.ups(i) for i in range(1, self.size)])
