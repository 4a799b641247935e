"""Promises [25] and [26], and guarantee (T1)."""

import random
from itertools import combinations
from math import comb

from toldall.errors import NotUsable
from toldall.exchanges import (alike_rows, are_alike, how_many_alike, least_row, longest_chain, own_row, rounds_of)
from tests.cases import BOTH, EITHER, FREE, LOOSE, ODD_DEEP, Case, slow_alike, slow_apart, slow_end, some_books
from tests.test_bookchanges import NO_BOOKS
from tests.test_runs import FOUR, NO_ROWS


def some_rows(seed, book, many, most):
    dice = random.Random(seed)
    names = [deed[0] for deed in book[0]]
    return [tuple(dice.choice(names) for _ in range(dice.randrange(most + 1))) for _ in range(many)]


def cases(seed, most=6):
    books = [FREE, EITHER, LOOSE, FOUR, *some_books(seed, 12, deeds=4, states=2, odds=0.9)]
    return [(book, row) for book in books for row in some_rows(seed, book, 12, most)]


def is_chain(book, row, indexes):
    pairs = zip(indexes, indexes[1:])
    return all(i < j and not slow_apart(book, row[i], row[j]) for i, j in pairs)


def slow_lengths(book, row):
    """How long the longest chain to each deed of the row is."""
    lengths = []
    for k, name in enumerate(row):
        lengths.append(1 + max((lengths[i] for i in range(k) if not slow_apart(book, row[i], name)), default=0))
    return lengths


class ExchangesTest(Case):

    def test_document(self):
        self.same([own_row(FREE, ('m', 'a', 'n'), 'y'), are_alike(FREE, ('m', 'n', 'a'), ('m', 'a', 'n')),
                   least_row(FREE, ('n', 'a', 'm'))], [('m', 'n'), True, ('a', 'n', 'm')])
        self.same([list(alike_rows(FREE, ('n', 'a', 'a'))), how_many_alike(FREE, ('n', 'n', 'a', 'a'))],
                  [[('a', 'a', 'n'), ('a', 'n', 'a'), ('n', 'a', 'a')], 6])
        self.same([rounds_of(FREE, ('a', 'n', 'm', 'a')), len(longest_chain(FREE, ('a', 'n', 'm', 'a')))],
                  [(('a', 'n'), ('m',), ('a',)), 3])

    def test_own_rows(self):
        row = ('m', 'a', 'n', 'n', 'a', 'm')
        self.same([own_row(FREE, row, party) for party in 'xyz'],
                  [('m', 'a', 'a', 'm'), ('m', 'n', 'n', 'm'), ('n', 'n')])
        self.same([own_row(FREE, (), 'x'), own_row(FREE, ('a',), 'z'), own_row(EITHER, ('a', 'b'), 'y')],
                  [(), (), ('b',)])
        self.same(own_row(FREE, ('a', 'm', 'n', 'm') * 10, 'x'), ('a', 'm', 'm') * 10)

    def test_alike_rows(self):
        for book, row in cases(61):
            alike = slow_alike(book, row)
            self.same(list(alike_rows(book, row)), alike)
            self.same([how_many_alike(book, row), least_row(book, row)], [len(alike), alike[0]])
            for other in alike[:4] + alike[-4:]:
                self.same([are_alike(book, row, other), are_alike(book, other, row)], [True, True])
                self.same(slow_end(book, other), slow_end(book, row))
            for other in some_rows(62, book, 12, len(row)):
                self.same(are_alike(book, row, other), other in alike)
                same = all(own_row(book, row, each) == own_row(book, other, each)
                           for each in {party for deed in book[0] for party in deed[1]})
                self.assertEqual(same, other in alike)

    def test_rows_that_only_share_their_deeds_are_not_alike(self):
        self.same([are_alike(FREE, ('a', 'm'), ('m', 'a')), are_alike(FREE, ('a', 'n'), ('n', 'a')),
                   are_alike(FREE, ('a',), ()), are_alike(FREE, (), ()), are_alike(FREE, ('a',), ('a', 'a'))],
                  [False, True, False, True, False])

    def test_rows_that_are_not_allowed(self):
        self.same([are_alike(EITHER, ('a', 'b'), ('b', 'a')), least_row(EITHER, ('b', 'a')),
                   list(alike_rows(EITHER, ('b', 'a', 'b'))), how_many_alike(EITHER, ('b', 'b', 'a')),
                   rounds_of(EITHER, ('b', 'a')), longest_chain(EITHER, ('b', 'a', 'b'))],
                  [True, ('a', 'b'), [('a', 'b', 'b'), ('b', 'a', 'b'), ('b', 'b', 'a')], 3, (('a', 'b'),), (0, 2)])

    def test_how_many_of_long_rows(self):
        self.same([how_many_alike(FREE, ('a',) * 6 + ('n',) * 6), how_many_alike(FOUR, tuple('abcd' * 3)),
                   how_many_alike(FREE, ('m',) * 12), how_many_alike(FREE, ())], [comb(12, 6), 369600, 1, 1])
        self.same(how_many_alike(FREE, ('a', 'n', 'm', 'a', 'n', 'a')), 6)
        self.same([list(alike_rows(FREE, ())), least_row(FREE, ())], [[()], ()])
        self.same(len(list(alike_rows(FOUR, tuple('dcbadcba')))), 2520)
        self.same(least_row(FOUR, tuple('dcba' * 10)), tuple('a' * 10 + 'b' * 10 + 'c' * 10 + 'd' * 10))

    def test_alike_rows_come_one_by_one(self):
        rows = alike_rows(FOUR, tuple('dcba' * 10))
        self.same([next(rows), next(rows)], [tuple('a' * 10 + 'b' * 10 + 'c' * 10 + 'd' * 10),
                                             tuple('a' * 10 + 'b' * 10 + 'c' * 9 + 'dc' + 'd' * 9)])
        self.assertEqual(rows.__class__.__name__, 'generator')

    def test_rounds(self):
        self.same([rounds_of(FREE, ()), rounds_of(FREE, ('n', 'a')), rounds_of(FREE, ('a', 'a', 'n')),
                   rounds_of(FREE, ('m', 'n', 'a', 'a', 'n'))],
                  [(), (('a', 'n'),), (('a', 'n'), ('a',)), (('m',), ('a', 'n'), ('a', 'n'))])
        for book, row in cases(63, most=9):
            rounds = rounds_of(book, row)
            lengths = slow_lengths(book, row)
            wanted = [sorted(name for name, length in zip(row, lengths) if length == k)
                      for k in range(1, max(lengths, default=0) + 1)]
            self.same(rounds, tuple(tuple(each) for each in wanted))
            for each in rounds:
                self.assertTrue(all(slow_apart(book, *pair) for pair in combinations(each, 2)))
            self.same(are_alike(book, row, tuple(name for each in rounds for name in each)), True)
            for other in list(alike_rows(book, row[:6]))[:5]:
                self.same(rounds_of(book, other), rounds_of(book, row[:6]))

    def test_longest_chains(self):
        self.same([longest_chain(FREE, ()), longest_chain(FREE, ('a',)), longest_chain(FREE, ('a', 'a', 'n'))],
                  [(), (0,), (0, 1)])
        self.same(longest_chain(FREE, ('n', 'a', 'a', 'm', 'n', 'a', 'n', 'n')), (1, 2, 3, 4, 6, 7))
        for book, row in cases(64, most=9):
            chain = longest_chain(book, row)
            self.assertIsInstance(chain, tuple)
            self.assertTrue(is_chain(book, row, chain), (row, chain))
            self.assertTrue(all(0 <= k < len(row) for k in chain))
            self.assertEqual(len(chain), max(slow_lengths(book, row), default=0))
            self.assertEqual(len(chain), len(rounds_of(book, row)))

    def test_first_parameter_that_cannot_be_used(self):
        for odd in NO_BOOKS:
            for function in (own_row, are_alike):
                self.unusable('book', function, odd, (), None)
                self.unusable('book', function, odd, odd, odd)
            for function in (least_row, how_many_alike, rounds_of, longest_chain):
                self.unusable('book', function, odd, ())
                self.unusable('book', function, odd, None)
            self.unusable('book', next, alike_rows(odd, None))
        for odd in NO_ROWS:
            if odd != () or isinstance(odd, list):
                self.unusable('row', own_row, FREE, odd, 'x')
                self.unusable('row', own_row, FREE, odd, None)
                self.unusable('row', are_alike, FREE, odd, ())
                self.unusable('row', are_alike, FREE, odd, odd)
                self.unusable('other', are_alike, FREE, ('a',), odd)
                for function in (least_row, how_many_alike, rounds_of, longest_chain):
                    self.unusable('row', function, FREE, odd)
                self.unusable('row', next, alike_rows(FREE, odd))
        for odd in (*ODD_DEEP, 'w', 'a', ('x',), ['x']):
            self.unusable('party', own_row, FREE, ('a',), odd)

    def test_alike_rows_raise_when_the_first_is_asked_for(self):
        rows = alike_rows(FREE, ('b',))
        with self.assertRaises(NotUsable):
            next(rows)

    def test_arguments_by_name(self):
        self.same([own_row(book=FREE, row=('a', 'n'), party='z'), are_alike(book=FREE, row=('a',), other=('n',)),
                   least_row(book=FREE, row=('n', 'a')), list(alike_rows(book=BOTH, row=('b', 'a'))),
                   how_many_alike(book=BOTH, row=('b', 'a')), rounds_of(book=BOTH, row=('b', 'a')),
                   longest_chain(book=BOTH, row=('b', 'b'))],
                  [('n',), False, ('a', 'n'), [('a', 'b'), ('b', 'a')], 2, (('a', 'b'),), (0, 1)])
