"""What tests of sayings share: books and sayings that the dice make, and slow answers by the words of the document."""

from itertools import combinations

from tests.cases import EITHER, FREE, ODD_DEEP, nested, slow_alike, slow_apart

HEARD = ('knows', ('z',), ('done', 'a', 1))
DONE = ('done', 'a', 1)
EVEN = ('modulo', 'm', 2, 0)
LATEST = ('latest', 'm', 'a')
AT = ('at', (0,))

# Values that are no saying of FREE, and no saying by form.
NO_FORMS = (*ODD_DEEP, list(HEARD), ('done', 'a'), ('done', 'a', 0), ('done', 'a', True), ('done', 'a', '1'),
            ('done', ['a'], 1), ('done', 'A', 1), ('modulo', 'm', 2, 2), ('modulo', 'm', 2, False), ('modulo', 'm', 1, 0),
            ('latest', 'a', 'a'), ('latest', 'a', ['m']), ('at', ()), ('at', (0, 0)), ('at', (False,)), ('at', [0]),
            ('at', 0), ('not',), ('not', DONE, DONE), ('not', list(DONE)), ('and', DONE), ('or', DONE, None),
            ('or', DONE, DONE, DONE), ('knows', (), DONE), ('knows', ('y', 'x'), DONE), ('knows', ['x'], DONE),
            ('knows', 'x', DONE), ('knows', ('x',)), ('hears', ('x',), DONE), (['not'], DONE), nested(DONE, 20))
NO_SAYINGS = (*NO_FORMS, ('done', 'b', 1), ('modulo', 'b', 2, 1), ('latest', 'a', 'b'), ('latest', 'b', 'a'),
              ('latest', 'a', 'n'), ('at', (1,)), ('at', (0, 10 ** 59)), ('knows', ('w',), DONE),
              ('knows', ('x', 'zz'), DONE), ('not', ('done', 'b', 1)), ('and', DONE, ('or', DONE, ('at', (1,)))))


def parties_of_book(book):
    return sorted({party for deed in book[0] for party in deed[1]})


def slow_sets(book):
    parties = parties_of_book(book)
    return [each for size in range(1, len(parties) + 1) for each in combinations(parties, size)]


def some_fact(dice, book):
    names = [deed[0] for deed in book[0]]
    pairs = [(i, j) for i in names for j in names if i != j and not slow_apart(book, i, j)]
    word = dice.choice(('done', 'done', 'modulo', 'latest'))
    if word == 'latest' and pairs:
        return ('latest', *dice.choice(pairs))
    if word == 'modulo':
        n = dice.randrange(2, 4)
        return ('modulo', dice.choice(names), n, dice.randrange(n))
    return ('done', dice.choice(names), dice.randrange(1, 4))


def some_leaf(dice, book):
    if dice.random() < 0.2:
        many = len(book[1])
        return ('at', tuple(sorted(dice.sample(range(many), dice.randrange(1, many + 1)))))
    return some_fact(dice, book)


def some_saying(dice, book, depth=2, size=6):
    """A saying of the book, with at most this depth and about so many parts."""
    word = dice.choice(('not', 'and', 'or', 'knows', 'knows', 'leaf')) if size > 1 else 'leaf'
    if word == 'knows' and depth == 0:
        word = dice.choice(('not', 'leaf'))
    if word == 'leaf':
        return some_leaf(dice, book)
    if word == 'not':
        return ('not', some_saying(dice, book, depth, size - 1))
    if word == 'knows':
        return ('knows', dice.choice(slow_sets(book)), some_saying(dice, book, depth - 1, size - 1))
    return (word, some_saying(dice, book, depth, size // 2), some_saying(dice, book, depth, size // 2))


def saying_of_depth(dice, book, depth, size=6):
    """A saying that the dice make, with just this depth."""
    while True:
        saying = some_saying(dice, book, depth, size)
        if slow_depth(saying) == depth:
            return saying


def within(saying):
    """The sayings directly within a saying."""
    return {'not': saying[1:], 'and': saying[1:], 'or': saying[1:], 'knows': saying[2:]}.get(saying[0], ())


def slow_parts(saying):
    return [saying] + [part for inner in within(saying) for part in slow_parts(inner)]


def slow_depth(saying):
    return (saying[0] == 'knows') + max([slow_depth(inner) for inner in within(saying)], default=0)


def slow_facts(saying):
    return tuple(sorted({part for part in slow_parts(saying) if part[0] in ('done', 'modulo', 'latest')}))


def slow_mark(fact, run):
    """The mark of a fact, by its definition."""
    if fact[0] == 'done':
        return min(run.count(fact[1]), fact[2])
    if fact[0] == 'modulo':
        return run.count(fact[1]) % fact[2]
    own = [name for name in run if name in fact[1:]]
    return 1 if own and own[-1] == fact[1] else 0


def slow_text(saying):
    word = saying[0]
    words = [slow_text(inner) for inner in within(saying)]
    if word == 'knows':
        words = ['+'.join(saying[1])] + words
    elif word == 'at':
        words = [str(state) for state in saying[1]]
    elif not words:
        words = [str(each) for each in saying[1:]]
    return word + '(' + ','.join(words) + ')'


def chain(word, depth, saying=DONE):
    """The saying within so many parts with this word."""
    for _ in range(depth):
        saying = (word, ('x',), saying) if word == 'knows' else (word, saying)
    return saying


def beginnings(book, row):
    """All rows that are beginnings of the row."""
    return {alike[:k] for alike in slow_alike(book, row) for k in range(len(row) + 1)}


PAIRS = ((FREE, EITHER), (EITHER, FREE))
