"""Benches: words that steps change, with steps that are taken back and done again, and trials."""

from liftwords.alike import alike
from liftwords.deeds import Walk, is_deed
from liftwords.errors import BadDeed, NothingLeft, Stuck
from liftwords.kinds import is_listing, is_whole
from liftwords.moves import made
from liftwords.words import Word


def after_deed(word, deed, number):
    """The word that comes of an integer if it is a deed that can be done; it is refused by its number."""
    if not is_deed(word.size, deed):
        raise BadDeed(number)
    walk = Walk(word)
    if not walk.go(deed):
        raise Stuck(number)
    return walk.reached()


def after_step(word, step, number):
    """The word that comes of a step, which is refused by its number."""
    if isinstance(step, tuple):
        return Word(word.size, made(word.size, word.letters, step, number))
    return after_deed(word, step, number)


class Story:
    """What a bench remembers, and the story that goes on when this one, of a trial, ends.

    The words are the first one and what came of each step that stands; what was taken back is kept as pairs of a step
    and the word that came of it.
    """

    def __init__(self, words, done, undone, outer):
        self.words = words
        self.done = done
        self.undone = undone
        self.outer = outer


class Trial:
    """What a bench does in the block of a trial is as if it had not been when the block ends."""

    def __init__(self, bench):
        self.bench = bench

    def __enter__(self):
        story = self.bench.story
        self.bench.story = Story(list(story.words), list(story.done), list(story.undone), story)
        return self.bench

    def __exit__(self, kind, value, trace):
        self.bench.story = self.bench.story.outer


class Bench:
    """A word that steps, which are deeds and moves, change."""

    def __init__(self, word):
        self.first = word
        self.story = Story([word], [], [], None)

    @property
    def word(self):
        """The word as it is now."""
        return self.story.words[-1]

    def __len__(self):
        return len(self.story.done)

    def __eq__(self, other):
        return isinstance(other, Bench) and self.first == other.first and self.story.done == other.story.done

    def steps(self):
        """The steps that stand."""
        return tuple(self.story.done)

    def do(self, step):
        """Do a deed or a move, and return the new word."""
        if not is_whole(step) and not isinstance(step, tuple):
            raise BadDeed(None)
        return self.do_all([step])

    def do_all(self, steps):
        """Do some steps, all or none, and return the new word."""
        if not is_listing(steps):
            raise BadDeed(None)
        word = self.word
        words = []
        for number, step in enumerate(steps):
            word = after_step(word, step, number)
            words.append(word)
        if words:
            self.story.words.extend(words)
            self.story.done.extend(steps)
            self.story.undone = []
        return word

    def undo(self):
        """Take back the last step that stands, and return it."""
        story = self.story
        if not story.done:
            raise NothingLeft()
        step = story.done.pop()
        story.undone.append((step, story.words.pop()))
        return step

    def redo(self):
        """Do the last step again that was taken back, and return it."""
        story = self.story
        if not story.undone:
            raise NothingLeft()
        step, word = story.undone.pop()
        story.done.append(step)
        story.words.append(word)
        return step

    def is_alike(self):
        """Whether the word is alike to the first one."""
        return alike(self.first, self.word)

    def back(self):
        """Undo steps until none stands, and return how many these were."""
        many = len(self.story.done)
        while self.story.done:
            self.undo()
        return many

    def trial(self):
        """What `with` makes a trial of: the block gets this bench, and the bench is what it was when it ends."""
        return Trial(self)


def tried(bench, function):
    """Call a function with a bench in a trial, and return what it returns."""
    with bench.trial() as same:
        return function(same)
