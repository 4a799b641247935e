"""What tests of sayings share: books and sayings that the dice make, and slow answers by the words of the document."""

import random
from itertools import combinations

from tests.cases import (BOTH, EITHER, ODD_DEEP, has_exchange, nested, slow_alike, slow_apart, slow_end, slow_exchange,
                         some_deeds)

HEARD = ('knows', ('z',), ('done', 'a', 1))
DONE = ('done', 'a', 1)
EVEN = ('modulo', 'm', 2, 0)
LATEST = ('latest', 'm', 'a')
AT = ('at', (0,))

# Values that are no saying of FREE, and no saying by form.
NO_FORMS = (*ODD_DEEP, list(HEARD), ('done', 'a'), ('done', 'a', 0), ('done', 'a', True), ('done', 'a', '1'),
            ('done', ['a'], 1), ('done', 'A', 1), ('modulo', 'm', 2, 2), ('modulo', 'm', 2, False), ('modulo', 'm', 1, 0),
            ('latest', 'a', 'a'), ('latest', 'a', ['m']), ('at', ()), ('at', (0, 0)), ('at', (False,)), ('at', [0]),
            ('at', 0), ('not',), ('not', DONE, DONE), ('not', list(DONE)), ('and', DONE), ('or', DONE, None),
            ('or', DONE, DONE, DONE), ('knows', (), DONE), ('knows', ('y', 'x'), DONE), ('knows', ['x'], DONE),
            ('knows', 'x', DONE), ('knows', ('x',)), ('hears', ('x',), DONE), (['not'], DONE), nested(DONE, 20))
NO_SAYINGS = (*NO_FORMS, ('done', 'b', 1), ('modulo', 'b', 2, 1), ('latest', 'a', 'b'), ('latest', 'b', 'a'),
              ('latest', 'a', 'n'), ('at', (1,)), ('at', (0, 10 ** 59)), ('knows', ('w',), DONE),
              ('knows', ('x', 'zz'), DONE), ('not', ('done', 'b', 1)), ('and', DONE, ('or', DONE, ('at', (1,)))))


def parties_of_book(book):
    return sorted({party for deed in book[0] for party in deed[1]})


def slow_sets(book):
    parties = parties_of_book(book)
    return [each for size in range(1, len(parties) + 1) for each in combinations(parties, size)]


def some_fact(dice, book):
    names = [deed[0] for deed in book[0]]
    pairs = [(i, j) for i in names for j in names if i != j and not slow_apart(book, i, j)]
    word = dice.choice(('done', 'done', 'modulo', 'latest'))
    if word == 'latest' and pairs:
        return ('latest', *dice.choice(pairs))
    if word == 'modulo':
        n = dice.randrange(2, 4)
        return ('modulo', dice.choice(names), n, dice.randrange(n))
    return ('done', dice.choice(names), dice.randrange(1, 4))


def some_leaf(dice, book):
    if dice.random() < 0.2:
        many = len(book[1])
        return ('at', tuple(sorted(dice.sample(range(many), dice.randrange(1, many + 1)))))
    return some_fact(dice, book)


def some_saying(dice, book, depth=2, size=6):
    """A saying of the book, with at most this depth and about so many parts."""
    word = dice.choice(('not', 'and', 'or', 'knows', 'knows', 'leaf')) if size > 1 else 'leaf'
    if word == 'knows' and depth == 0:
        word = dice.choice(('not', 'leaf'))
    if word == 'leaf':
        return some_leaf(dice, book)
    if word == 'not':
        return ('not', some_saying(dice, book, depth, size - 1))
    if word == 'knows':
        return ('knows', dice.choice(slow_sets(book)), some_saying(dice, book, depth - 1, size - 1))
    return (word, some_saying(dice, book, depth, size // 2), some_saying(dice, book, depth, size // 2))


def saying_of_depth(dice, book, depth, size=6):
    """A saying that the dice make, with just this depth."""
    while True:
        saying = some_saying(dice, book, depth, size)
        if slow_depth(saying) == depth:
            return saying


def slow_positive(saying, even=True):
    """Whether above each "knows" the number of "not" is even."""
    if saying[0] == 'knows' and not even:
        return False
    return all(slow_positive(inner, even != (saying[0] == 'not')) for inner in within(saying))


def some_positive(dice, book, depth, size=6):
    """A positive saying of just this depth."""
    while True:
        saying = saying_of_depth(dice, book, depth, size)
        if slow_positive(saying):
            return saying


def within(saying):
    """The sayings directly within a saying."""
    return {'not': saying[1:], 'and': saying[1:], 'or': saying[1:], 'knows': saying[2:]}.get(saying[0], ())


def slow_parts(saying):
    return [saying] + [part for inner in within(saying) for part in slow_parts(inner)]


def slow_depth(saying):
    return (saying[0] == 'knows') + max([slow_depth(inner) for inner in within(saying)], default=0)


def slow_facts(saying):
    return tuple(sorted({part for part in slow_parts(saying) if part[0] in ('done', 'modulo', 'latest')}))


def slow_mark(fact, run):
    """The mark of a fact, by its definition."""
    if fact[0] == 'done':
        return min(run.count(fact[1]), fact[2])
    if fact[0] == 'modulo':
        return run.count(fact[1]) % fact[2]
    own = [name for name in run if name in fact[1:]]
    return 1 if own and own[-1] == fact[1] else 0


def slow_text(saying):
    word = saying[0]
    words = [slow_text(inner) for inner in within(saying)]
    if word == 'knows':
        words = ['+'.join(saying[1])] + words
    elif word == 'at':
        words = [str(state) for state in saying[1]]
    elif not words:
        words = [str(each) for each in saying[1:]]
    return word + '(' + ','.join(words) + ')'


def chain(word, depth, saying=DONE):
    """The saying within so many parts with this word."""
    for _ in range(depth):
        saying = (word, ('x',), saying) if word == 'knows' else (word, saying)
    return saying


def beginnings(book, row):
    """All rows that are beginnings of the row."""
    return {alike[:k] for alike in slow_alike(book, row) for k in range(len(row) + 1)}


def slow_past_row(book, row, parties):
    """The past of the parties in a row, from the last deed on."""
    own, met, past = dict(book[0]), set(parties), []
    for name in reversed(row):
        if met & set(own[name]):
            met |= set(own[name])
            past.append(name)
    return tuple(reversed(past))


def some_parts(dice, deeds, many, ends):
    """For each party a small machine of its own; a deed is allowed in the book where it is in those of its parties."""
    parties = sorted({party for deed in deeds for party in deed[1]})
    return {party: [{deed[0]: dice.choice(list(ends(k))) for deed in deeds
                     if party in deed[1] and list(ends(k)) and dice.random() < 0.8} for k in range(many)]
            for party in parties}


def put_together(deeds, parts):
    """The book of small machines of the parties; its states are those that are reached."""
    order, rows = [tuple(0 for _ in parts)], []
    while len(rows) < len(order):
        here, row = dict(zip(parts, order[len(rows)])), []
        for name, own in deeds:
            if all(name in parts[party][here[party]] for party in own):
                there = tuple(parts[party][here[party]][name] if party in own else here[party] for party in parts)
                if there not in order:
                    order.append(there)
                row.append((name, order.index(there)))
        rows.append(tuple(row))
    return deeds, tuple(rows)


def some_put_together(seed, many, finite, deeds=4, parts=3, states=16, parties='wxyz'):
    """Books that the dice put together; those that are finite have no run that goes on and on."""
    dice = random.Random(seed)
    found = []
    while len(found) < many:
        own = some_deeds(dice, 'abcdef', parties, deeds)
        book = put_together(own, some_parts(dice, own, parts, lambda k: range(k + 1 if finite else 0, parts)))
        if 3 <= len(book[1]) <= states and has_exchange(book):
            found.append(book)
    return found


def all_runs(book):
    """All runs of a book that has finitely many."""
    runs = [()]
    for run in runs:
        runs += [(*run, name) for name, end in book[1][slow_end(book, run)]]
    return runs


class Slow:
    """What holds at the runs of a finite book, by the words of [5] and [6]."""

    def __init__(self, book):
        self.book = book
        self.runs = all_runs(book)
        self.seen = {}
        self.known = {}

    def view(self, run, parties):
        """The same for just those runs that look alike to the parties."""
        if (run, parties) not in self.seen:
            self.seen[run, parties] = slow_alike(self.book, slow_past_row(self.book, run, parties))[0]
        return self.seen[run, parties]

    def twins(self, run, parties):
        """The runs that look alike to the parties."""
        return [other for other in self.runs if self.view(other, parties) == self.view(run, parties)]

    def holds(self, saying, run):
        if (saying, run) not in self.known:
            self.known[saying, run] = self.told(saying, run)
        return self.known[saying, run]

    def told(self, saying, run):
        word = saying[0]
        if word == 'knows':
            return all([self.holds(saying[2], other) for other in self.twins(run, saying[1])])
        return slow_plain(self.book, saying, run, self.holds)


def slow_plain(book, saying, run, holds):
    """Whether a saying that is no "knows" holds, by whether those within it do."""
    word = saying[0]
    if word == 'not':
        return not holds(saying[1], run)
    if word == 'and':
        return holds(saying[1], run) and holds(saying[2], run)
    if word == 'or':
        return holds(saying[1], run) or holds(saying[2], run)
    if word == 'at':
        return slow_end(book, run) in saying[1]
    if word == 'done':
        return run.count(saying[1]) >= saying[2]
    if word == 'modulo':
        return run.count(saying[1]) % saying[2] == saying[3]
    return slow_mark(saying, run) == 1


class Near:
    """What holds at the runs of any book, by (T4), where a few deeds more tell all that can be told."""

    def __init__(self, book, most):
        self.book = book
        self.most = most
        self.known = {}
        self.rows = {}

    def behind(self, past, parties):
        """The runs that consist of a past and then of at most so many deeds without the parties."""
        if (past, parties) not in self.rows:
            names = [name for name, own in self.book[0] if not set(own) & set(parties)]
            runs = [past]
            for run in runs:
                if len(run) < len(past) + self.most:
                    runs += [(*run, name) for name in names if slow_end(self.book, (*run, name)) is not None]
            self.rows[past, parties] = sorted({slow_alike(self.book, run)[0] for run in runs})
        return self.rows[past, parties]

    def holds(self, saying, run):
        if (saying, run) not in self.known:
            self.known[saying, run] = self.told(saying, run)
        return self.known[saying, run]

    def told(self, saying, run):
        if saying[0] == 'knows':
            runs = self.behind(slow_past_row(self.book, run, saying[1]), saying[1])
            return all([self.holds(saying[2], other) for other in runs])
        return slow_plain(self.book, saying, run, self.holds)


def some_steep(seed, many, deeds=3, states=6):
    """Finite books that the dice make, in which what one party does may bar others."""
    dice = random.Random(seed)
    found = []
    while len(found) < many:
        own = some_deeds(dice, 'abcde', 'xyz', deeds)
        rows = [tuple((deed[0], dice.randrange(k + 1, states)) for deed in own if k + 1 < states and dice.random() < 0.5)
                for k in range(states)]
        book = (own, tuple(rows))
        if slow_exchange(book) is None and has_exchange(book):
            found.append(book)
    return found


# No run leads to the states 3 and 4.
PLACES = (EITHER[0], ((('a', 1), ('b', 2)), (), (), (('a', 1),), (('b', 4),)))


def finite_books(seed, many=5):
    return [EITHER, BOTH, PLACES, *some_steep(seed, many), *some_put_together(seed + 1, many, True)]
