"""What tests of houses share: events, a slow house by the words of the document, and what a house looks like."""

import random

from toldall.holding import holds_at, who_know
from tests.cases import BOTH, EITHER, FREE, LOOSE, ODD_DEEP, slow_end
from tests.papers import listened
from tests.sayings import (DONE, NO_FORMS, PLACES, finite_books, parties_of_book, saying_of_depth,
                           slow_past_row, some_put_together)
from tests.told import names_in

# Values that are no events by form.
NO_EVENTS = (*ODD_DEEP, ('do',), ('do', 'a', 'b'), ('do', 'A'), ('do', ['a']), ('do', ('a',)), ('do', True), ('do', DONE),
             ['do', 'a'], (['do'], 'a'), ('Do', 'a'), ('do', 'abcdefghi'), ('do', ''), ('listen', 'a'), ('listen', 'a', 'x', 'y'),
             ('listen', 'a', 1), ('listen', ('a',), 'x'), ('listen', 'a', ('x',)), ('watch',), ('watch', 'a'), ('watch', DONE, DONE),
             ('watch', list(DONE)), ('drop', None), ('drop',), ('drop', DONE, 'a'), ('guard', 'a'), ('guard', DONE, 'a'),
             ('guard', 'a', DONE, DONE), ('guard', 'a', None), ('guard', ['a'], DONE), ('free',), ('free', 'a', DONE),
             ('free', DONE), ('mark',), ('mark', 'a', 'b'), ('mark', None), ('mark', 'one two'), ('mark', 'x1'), ('undo',),
             ('house', FREE), ('happen', ('do', 'a')), DONE, ('hear', 'a', 'x'), ('free', True),
             *[(word, odd) for word in ('watch', 'drop') for odd in NO_FORMS], *[('guard', 'a', odd) for odd in NO_FORMS])

EVENTS = (('do', 'a'), ('do', 'zz'), ('listen', 'a', 'x'), ('listen', 'b', 'w'), ('watch', DONE), ('watch', ('done', 'zz', 9)),
          ('drop', DONE), ('drop', ('knows', ('u', 'v'), ('at', (10 ** 59,)))), ('guard', 'a', DONE),
          ('guard', 'zz', ('not', ('and', DONE, ('modulo', 'b', 3, 2)))), ('free', 'abcdefgh'), ('mark', 'do'), ('mark', 'x'))

# What x and y can do hangs on what was done, and z hears of it by n.
THREE = ((('a', ('x',)), ('b', ('y',)), ('m', ('x', 'y')), ('n', ('y', 'z'))),
         ((('a', 1), ('b', 2), ('m', 0), ('n', 0)), (('b', 3), ('m', 0), ('n', 1)), (('a', 3), ('m', 2), ('n', 2)),
          (('m', 3), ('n', 3))))


class SlowHouse:
    """A house by the words of the document: a book, and a list of what happened."""

    def __init__(self, book):
        self.book = book
        self.events = []

    def of(self, word):
        return [event[1:] for event in self.events if event[0] == word]

    def run(self):
        return tuple(deed for deed, in self.of('do'))

    def now(self):
        return listened(self.book, self.of('listen'))

    def watched(self):
        found = []
        for event in self.events:
            if event[0] == 'watch':
                found.append(event[1])
            elif event[0] == 'drop':
                found.remove(event[1])
        return tuple(sorted(found))

    def guards(self):
        found = {}
        for event in self.events:
            if event[0] == 'guard':
                found[event[1]] = event[2]
            elif event[0] == 'free':
                found.pop(event[1])
        return found

    def marks(self):
        return [name for name, in self.of('mark')]

    def reason(self, event, most=40):
        """The first reason of [64], for an event by form."""
        word, book = event[0], self.now()
        if len(self.events) >= most:
            return 'full'
        if word in ('do', 'listen', 'guard', 'free') and event[1] not in names_in(book):
            return 'deed'
        if word == 'listen' and event[2] not in parties_of_book(book):
            return 'party'
        if word in ('watch', 'guard') and not is_saying_of(book, event[-1]):
            return 'saying'
        if word == 'listen' and event[2] in dict(book[0])[event[1]]:
            return 'same'
        if word == 'watch' and event[1] in self.watched() or word == 'drop' and event[1] not in self.watched():
            return 'same'
        if word == 'guard' and self.guards().get(event[1]) == event[2] or word == 'free' and event[1] not in self.guards():
            return 'same'
        if word == 'mark' and event[1] in self.marks():
            return 'twice'
        if word == 'do' and slow_end(book, (*self.run(), event[1])) is None:
            return 'barred'
        if word == 'do' and event[1] in self.guards() and not self.knows(dict(book[0])[event[1]], self.guards()[event[1]]):
            return 'unknowing'
        return None

    def knows(self, parties, saying):
        return holds_at(self.now(), ('knows', parties, saying), self.run())

    def can(self):
        return tuple(name for name in names_in(self.book) if self.reason(('do', name), 10 ** 9) is None)

    def news(self, lost):
        run, found = self.run(), []
        for saying in self.watched() if run else ():
            then, now = (set(who_know(self.now(), saying, row)) for row in (run[:-1], run))
            told = tuple(sorted(then - now if lost else now - then))
            if told:
                found.append((saying, told))
        return tuple(found)

    def since(self, name):
        at = self.events.index(('mark', name))
        return tuple(event[1] for event in self.events[at:] if event[0] == 'do')

    def table(self):
        book, run, lines = self.now(), self.run(), []
        for party in parties_of_book(book):
            own = sum(party in dict(book[0])[name] for name in run)
            known = sum(party in who_know(book, saying, run) for saying in self.watched())
            lines.append(f'{party:<8} {own:>2} {len(slow_past_row(book, run, (party,))):>2} {known:>2}')
        return lines

    def state(self):
        """What state_of tells of a house behind the same events."""
        run = self.run()
        tally = tuple((name, run.count(name)) for name in names_in(self.book) if name in run)
        return [run, self.now(), tuple(sorted(self.of('listen'))), self.watched(), tuple(sorted(self.guards().items())),
                (self.marks() or [None])[-1], (('house', self.book), *self.events), len(run), tally]

    def told(self):
        """What told_by tells of a house behind the same events."""
        return [self.can(), self.news(False), self.news(True), self.table(), [self.since(name) for name in self.marks()]]


def is_saying_of(book, saying):
    from toldall.sayingchecker import lets_saying
    from toldall.errors import InvalidPaper
    try:
        lets_saying(book, saying)
    except InvalidPaper:
        return False
    return True


def state_of(house):
    return [house.run_now, house.book_now, house.listeners_now, house.watched_now, house.guards_now, house.mark_now,
            house.log(), len(house), house.tally()]


def told_by(house):
    marks = [event[1] for event in house.log()[1:] if event[0] == 'mark']
    return [house.can_do(), house.news(), house.news(lost=True), house.table(), [house.done_since(name) for name in marks]]


def some_event(dice, book, saying):
    """An event by form that may be possible; saying gives one of the book."""
    word = dice.choice(('do', 'do', 'do', 'do', 'do', 'listen', 'watch', 'watch', 'drop', 'guard', 'guard', 'free', 'mark'))
    deed = dice.choice((*names_in(book), *names_in(book), 'zz') if word != 'do' else names_in(book) * 9 + ['zz'])
    if word == 'listen':
        return word, deed, dice.choice((*parties_of_book(book), 'w'))
    if word in ('watch', 'drop'):
        return word, saying()
    if word == 'guard':
        return word, deed, saying()
    return word, dice.choice('pqrst') if word == 'mark' else deed


def some_sayings(dice, book, many=5):
    """A function that gives one of a few sayings of the book, now and then none of it."""
    found = [saying_of_depth(dice, book, dice.choice((0, 0, 1, 1)), 3) for _ in range(many)]
    found += [DONE, ('knows', ('zz',), DONE), ('latest', 'a', 'b'), ('at', (0, 99))]
    return lambda: dice.choice(found)


def books_of_houses(seed, many=3):
    return [FREE, EITHER, BOTH, LOOSE, PLACES, THREE, *finite_books(seed, many)[3:],
            *some_put_together(seed + 1, many, False, deeds=3, parts=2, states=6, parties='xyz')]


def happened(seed, book, many=14, often=3):
    """A slow house behind events that the dice make, with as many as are possible of so many tries."""
    dice = random.Random(seed)
    slow = SlowHouse(book)
    saying = some_sayings(dice, book)
    for _ in range(many * often):
        event = some_event(dice, book, saying)
        if len(slow.events) < many and slow.reason(event) is None:
            slow.events.append(event)
    return slow


