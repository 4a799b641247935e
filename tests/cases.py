"""What the tests share: the document's machines, checks of results, and slow answers to compare with."""

import random
import unittest
from itertools import product

FREE = ((('a', ('x',)), ('m', ('x', 'y')), ('n', ('y', 'z'))), ((('a', 0), ('m', 0), ('n', 0)),))
EITHER = ((('a', ('x',)), ('b', ('y',))), ((('a', 1), ('b', 2)), (), ()))
SPLIT = (EITHER[0], ((('a', 1), ('b', 2)), (('b', 3),), (('a', 4),), (), ()))
ONEWAY = (EITHER[0], ((('a', 1), ('b', 2)), (('b', 3),), (), ()))
BOTH = (EITHER[0], ((('a', 1), ('b', 2)), (('b', 3),), (('a', 3),), ()))
# State 2 is not reached; m and a have a common party, a and n none.
LOOSE = (FREE[0], ((('a', 1), ('n', 0)), (('m', 0), ('n', 1)), (('a', 2),)))

# Values that are no machine, no book, no name, no number, no row, no set, no text, no saying.
ODD = (None, True, False, 0, 1, -1, 10 ** 59, '', 'A', 'a b', 'abcdefghi', 'a1', (), [], ((),), ([],),
       ['a'], ('a', ['x']), (('a',), 1), ('', ''), (True,), (None, None), ((), ()), [[], []], ('not',),
       ('not', ('not', ())), ('%', 'x'), (1, 2, 3), ('x', 'x'), ('y', 'x'), ['x'], list(FREE))


def nested(thing, depth=30):
    """The value within so many tuples."""
    for _ in range(depth):
        thing = (thing,)
    return thing


ODD_DEEP = ODD + (nested('a'), nested([]), nested(True), nested((), 25))


class Case(unittest.TestCase):
    """Checks that also tell True from 1, and tuples from lists."""

    def same(self, got, wanted):
        self.assertEqual(repr(got), repr(wanted))

    def refused(self, error, fields, function, *args, **more):
        """The call raises just this error, with just these fields."""
        with self.assertRaises(error) as caught:
            function(*args, **more)
        self.assertIs(caught.exception.__class__, error)
        self.same(sorted(vars(caught.exception).items()), sorted(fields.items()))

    def unusable(self, word, function, *args, **more):
        from toldall.errors import NotUsable
        self.refused(NotUsable, {'word': word, 'at': -1}, function, *args, **more)

    def bad_paper(self, word, at, function, *args, **more):
        from toldall.errors import InvalidPaper
        self.refused(InvalidPaper, {'word': word, 'at': at}, function, *args, **more)


def slow_end(machine, row, at=0):
    """Where a row leads, None if it is not allowed."""
    for name in row:
        at = dict(machine[1][at]).get(name)
        if at is None:
            return None
    return at


def slow_apart(machine, name, other):
    parties = dict(machine[0])
    return not set(parties[name]) & set(parties[other])


def slow_runs(machine, length):
    """All runs with so many deeds, ascending."""
    names = [deed[0] for deed in machine[0]]
    return [row for row in product(names, repeat=length) if slow_end(machine, row) is not None]


def slow_alike(machine, row):
    """All rows that exchanges of neighbours that are apart make of a row, ascending."""
    found, waiting = {tuple(row)}, [tuple(row)]
    while waiting:
        one = waiting.pop()
        for k in range(len(one) - 1):
            if slow_apart(machine, one[k], one[k + 1]):
                other = one[:k] + (one[k + 1], one[k]) + one[k + 2:]
                if other not in found:
                    found.add(other)
                    waiting.append(other)
    return sorted(found)


def slow_exchange(machine):
    """The first (state, deed, other) that a book forbids, by the words of the document."""
    deeds, states = machine
    for s in range(len(states)):
        for i, deed in enumerate(deeds):
            for j, other in enumerate(deeds):
                if not slow_apart(machine, deed[0], other[0]):
                    continue
                end = slow_end(machine, (deed[0], other[0]), s)
                if end is not None and slow_end(machine, (other[0], deed[0]), s) != end:
                    return s, i, j
    return None


def some_deeds(dice, names, parties, many):
    deeds = []
    for name in sorted(dice.sample(names, many)):
        own = dice.sample(parties, dice.choice((1, 1, 2)))
        deeds.append((name, tuple(sorted(own))))
    return tuple(deeds)


def some_machine(dice, names='abcde', parties='wxyz', deeds=3, states=4, odds=0.6):
    """A machine that the dice make."""
    deeds = some_deeds(dice, names, parties, deeds)
    rows = []
    for _ in range(states):
        rows.append(tuple((deed[0], dice.randrange(states)) for deed in deeds if dice.random() < odds))
    return deeds, tuple(rows)


def some_machines(seed, many, **more):
    dice = random.Random(seed)
    return [some_machine(dice, **more) for _ in range(many)]


def some_books(seed, many, **more):
    """Books that the dice make, all with two deeds that are apart and allowed behind each other."""
    dice = random.Random(seed)
    found = []
    while len(found) < many:
        machine = some_machine(dice, **more)
        if slow_exchange(machine) is None and has_exchange(machine):
            found.append(machine)
    return found


def has_exchange(machine):
    names = [deed[0] for deed in machine[0]]
    return any(slow_apart(machine, i, j) and slow_end(machine, (i, j)) is not None for i in names for j in names)
