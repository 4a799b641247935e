"""Promises [47] and [48] and, of them, guarantee (T9): from which own deed on a party always knows a saying."""

import random

from toldall.bookclasses import Book
from toldall.coming import coming_paper, knows_from
from toldall.holding import who_know
from toldall.runs import is_run
from toldall.tablechecker import lets_tables
from tests.cases import EITHER, FREE, LOOSE, Case, slow_runs
from tests.papers import own_deeds
from tests.sayings import (DONE, HEARD, NO_SAYINGS, PLACES, Slow, finite_books, parties_of_book, saying_of_depth,
                           some_put_together)
from tests.test_bookchanges import NO_BOOKS
from tests.test_pasts import NO_PARTIES
from tests.told import check_tables, names_in, slow_truth, walk

NEVER = ('not', ('done', 'b', 1))

# x does a as often as it likes, then b; or b first, then a. y does c at any time.
THEN = ((('a', ('x',)), ('b', ('x',)), ('c', ('y',))), ((('a', 0), ('b', 1), ('c', 0)), (('c', 1),)))
FIRST = (THEN[0], ((('b', 1), ('c', 0)), (('a', 1), ('c', 1))))

# As THEN, but x and y meet at any time, too.
MEET = ((*THEN[0], ('m', ('x', 'y'))), ((('a', 0), ('b', 1), ('c', 0), ('m', 0)), (('c', 1), ('m', 1))))


class ComingTest(Case):

    def check_paper(self, book, party, saying):
        """Look the paper through, clause by clause, and return its word and the number that it shows."""
        paper = coming_paper(book, party, saying)
        self.assertIs(paper.__class__, tuple)
        known = ('knows', (party,), saying)
        tables = paper[{'always': 1, 'most': 3, 'ring': 4}[paper[0]]]
        check_tables(self, book, known, tables)
        level = tables[-1]
        knows = [slow_truth(book, known, tables, len(tables) - 1, k) for k in range(len(level))]
        self.same(lets_tables(book, known, tables), knows.count(False))
        if paper[0] == 'always':
            self.same([len(paper), all(knows)], [2, True])
            return 'always', 0
        if paper[0] == 'most':
            self.check_most(book, party, paper, knows)
            return 'most', paper[1] + 1
        self.check_ring(book, party, paper, knows)
        return 'ring', None

    def check_most(self, book, party, paper, knows):
        word, number, run, tables, bounds = paper
        level = tables[-1]
        self.same([number.__class__, run.__class__, bounds.__class__], [int, tuple, tuple])
        self.same([is_run(book, run), own_deeds(book, party, run), knows[walk(book, level, run)], len(bounds)],
                  [True, number, False, len(level)])
        self.assertNotEqual(bounds[0], 'sure')
        for stand, bound, know in zip(level, bounds, knows):
            if bound == 'sure':
                self.same(know, True)
            else:
                self.assertTrue(bound.__class__ is int and bound >= 0 and (know or bound <= number))
            for name, end in zip(names_in(book), stand[-1]):
                if end == -1:
                    continue
                if bound == 'sure':
                    self.same(bounds[end], 'sure')
                elif bounds[end] != 'sure':
                    self.assertTrue(bounds[end] >= bound + own_deeds(book, party, (name,)))

    def check_ring(self, book, party, paper, knows):
        word, run, ring, rest, tables = paper
        level = tables[-1]
        self.same([run.__class__, ring.__class__, rest.__class__], [tuple, tuple, tuple])
        self.same([is_run(book, run + ring + rest), walk(book, level, run), knows[walk(book, level, run + rest)]],
                  [True, walk(book, level, run + ring), False])
        self.assertTrue(own_deeds(book, party, ring) > 0)

    def test_document(self):
        self.same([knows_from(EITHER, 'x', NEVER), knows_from(EITHER, 'y', NEVER), knows_from(FREE, 'z', ('done', 'a', 1))],
                  [1, 2, None])
        self.same([self.check_paper(EITHER, 'x', NEVER), self.check_paper(EITHER, 'y', NEVER),
                   self.check_paper(FREE, 'z', ('done', 'a', 1))], [('most', 1), ('most', 2), ('ring', None)])

    def test_by_hand(self):
        for book, party, saying, wanted in (
                (FREE, 'x', ('or', DONE, ('not', DONE)), ('always', 0)), (FREE, 'x', DONE, ('ring', None)),
                (FREE, 'y', ('not', ('knows', ('z',), ('latest', 'a', 'm'))), ('always', 0)),
                (PLACES, 'y', ('at', (0, 1, 2)), ('always', 0)), (PLACES, 'x', ('at', (3,)), ('most', 2)),
                (PLACES, 'x', ('at', (1,)), ('most', 1)), (THEN, 'x', NEVER, ('ring', None)),
                (THEN, 'y', NEVER, ('ring', None)), (THEN, 'y', ('knows', ('x',), NEVER), ('ring', None)),
                (FIRST, 'x', ('done', 'b', 1), ('most', 1)), (FIRST, 'x', ('done', 'a', 2), ('most', 3)),
                (FIRST, 'y', ('done', 'b', 1), ('ring', None)), (FIRST, 'y', ('or', DONE, ('not', DONE)), ('always', 0)),
                (FIRST, 'x', ('not', ('done', 'a', 3)), ('ring', None)), (FIRST, 'x', ('modulo', 'a', 2, 1), ('ring', None)),
                (LOOSE, 'z', ('done', 'a', 1), ('ring', None)), (LOOSE, 'y', ('at', (0, 1)), ('always', 0))):
            self.same(self.check_paper(book, party, saying), wanted)
            self.same(knows_from(book, party, saying), wanted[1])

    def test_rings_with_a_run_ahead_and_a_rest_behind(self):
        word, run, ring, rest, tables = coming_paper(THEN, 'x', NEVER)
        self.same([word, set(ring) - {'c'}, 'b' in run + ring, 'b' in rest], ['ring', {'a'}, False, True])
        unheard = ('not', ('knows', ('y',), ('done', 'b', 1)))
        word, run, ring, rest, tables = coming_paper(MEET, 'x', unheard)
        self.same([self.check_paper(MEET, 'x', unheard), 'b' in run + ring, [name for name in rest if name in 'bm'][-2:]],
                  [('ring', None), False, ['b', 'm']])
        self.same([self.check_paper(MEET, 'y', unheard), self.check_paper(MEET, 'x', ('not', ('knows', ('x',), unheard)))],
                  [('ring', None), ('ring', None)])
        # z has to hear of three a's until y does not know any more that z has not: a rest of many deeds.
        late = ('not', ('knows', ('z',), ('done', 'a', 3)))
        self.same([self.check_paper(FREE, 'y', late), len(coming_paper(FREE, 'y', late)[3]) >= 5], [('ring', None), True])
        for saying in (('not', ('knows', ('y',), ('and', ('done', 'm', 3), ('done', 'a', 2)))),
                       ('not', ('and', ('knows', ('x', 'z'), ('done', 'a', 3)), ('latest', 'm', 'n')))):
            for party in 'xyz':
                self.same(self.check_paper(FREE, party, saying), ('ring', None))
        word, run, ring, rest, tables = coming_paper(FIRST, 'x', ('not', ('done', 'a', 3)))
        self.same([word, 'b' in run, 'a' in ring, 'b' in ring + rest], ['ring', True, True, False])

    def test_rings_without_an_own_deed(self):
        # y goes on and on, x does three deeds at most.
        book = ((('a', ('x',)), ('c', ('y',))), ((('a', 1), ('c', 0)), (('a', 2), ('c', 1)), (('a', 3), ('c', 2)), (('c', 3),)))
        self.same([self.check_paper(book, 'x', ('done', 'a', 2)), self.check_paper(book, 'x', ('not', ('done', 'a', 3))),
                   self.check_paper(book, 'x', ('done', 'c', 1)), self.check_paper(book, 'y', ('done', 'a', 1))],
                  [('most', 2), ('most', 4), ('most', 4), ('ring', None)])

    def test_no_run_needs_to_have_so_many(self):
        self.same([knows_from(PLACES, 'x', ('done', 'b', 2)), max(len(run) for run in Slow(PLACES).runs)], [2, 1])

    def test_against_all_runs(self):
        dice = random.Random(191)
        told = {}
        for book in finite_books(192, 6):
            slow = Slow(book)
            for depth in (0, 1, 1, 2):
                saying = saying_of_depth(dice, book, depth, 5)
                for party in parties_of_book(book):
                    known = ('knows', (party,), saying)
                    many = [own_deeds(book, party, run) + 1 for run in slow.runs if not slow.holds(known, run)]
                    wanted = max(many, default=0)
                    told[wanted] = told.get(wanted, 0) + 1
                    self.same([knows_from(book, party, saying), self.check_paper(book, party, saying)],
                              [wanted, ('most' if many else 'always', wanted)])
        self.assertTrue(min(told[many] for many in (0, 1, 2)) > 10, told)

    def test_books_that_go_on_and_on(self):
        dice = random.Random(193)
        told = {}
        for book in (FREE, LOOSE, THEN, FIRST, *some_put_together(194, 8, False, deeds=3, parts=3, states=9)):
            runs = [run for length in range(5) for run in slow_runs(book, length)]
            for depth in (0, 1, 2):
                saying = saying_of_depth(dice, book, depth, 4)
                for party in parties_of_book(book):
                    word, number = self.check_paper(book, party, saying)
                    told[word] = told.get(word, 0) + 1
                    self.same(knows_from(book, party, saying), number)
                    for run in dice.sample(runs, min(6, len(runs))):
                        if number is not None and own_deeds(book, party, run) >= number:
                            self.assertIn(party, who_know(book, saying, run))
        self.assertTrue(min(told[word] for word in ('always', 'most', 'ring')) > 5, told)

    def test_first_parameter_that_cannot_be_used(self):
        for function in (knows_from, coming_paper):
            for odd in (*NO_BOOKS, Book(*FREE)):
                self.unusable('book', function, odd, 'x', DONE)
                self.unusable('book', function, odd, odd, odd)
            for odd in (*NO_PARTIES, 'a', 'w', ('x',)):
                if odd != 'x':
                    self.unusable('party', function, FREE, odd, DONE)
                    self.unusable('party', function, FREE, odd, odd)
            for odd in NO_SAYINGS:
                self.unusable('saying', function, FREE, 'x', odd)

    def test_arguments_by_name(self):
        given = {'saying': NEVER, 'party': 'y', 'book': EITHER}
        self.same([knows_from(**given), coming_paper(**given)], [2, coming_paper(EITHER, 'y', NEVER)])
        self.same(knows_from(saying=HEARD, book=FREE, party='x'), None)
