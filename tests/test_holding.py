"""Promises [39] and [40], and guarantees (T3) and (T4): what holds, who knows it, and twins."""

import random

from toldall.bookclasses import Book
from toldall.holding import holds_at, twin_of, who_know
from toldall.pasts import looks_alike, past_of
from toldall.runs import is_run
from tests.cases import EITHER, FREE, LOOSE, Case, slow_alike, slow_runs
from tests.sayings import (DONE, HEARD, NO_SAYINGS, PLACES, Near, Slow, finite_books, parties_of_book, saying_of_depth,
                           slow_sets, some_put_together)
from tests.test_bookchanges import NO_BOOKS
from tests.test_pasts import NO_PARTIES
from tests.test_runs import FOUR, NO_ROWS


def sayings_for(dice, book, depths=(0, 1, 1, 2, 2, 3), size=6):
    return [saying_of_depth(dice, book, depth, size) for depth in depths]


class HoldingTest(Case):

    def test_document(self):
        self.same([holds_at(FREE, HEARD, ('a', 'm', 'n')), holds_at(FREE, HEARD, ('m', 'a', 'n')),
                   who_know(FREE, ('done', 'a', 1), ('a', 'm'))], [True, False, ('x', 'y')])
        twin = twin_of(FREE, ('z',), ('done', 'a', 1), ('m', 'a', 'n'))
        self.same([twin_of(FREE, ('z',), ('done', 'a', 1), ('a', 'm', 'n')), holds_at(FREE, ('done', 'a', 1), twin)],
                  [None, False])
        self.same([who_know(EITHER, ('not', ('done', 'b', 1)), run) for run in ((), ('a',), ('b',))],
                  [('y',), ('x', 'y'), ()])

    def check_twin(self, book, parties, saying, run, holds):
        """Whether these parties know, by a twin that is looked through."""
        twin = twin_of(book, parties, saying, run)
        if twin is None:
            return True
        self.assertIs(twin.__class__, tuple)
        self.same([is_run(book, twin), looks_alike(book, parties, run, twin), holds(saying, twin)], [True, True, False])
        return False

    def test_against_the_words_of_the_document(self):
        dice = random.Random(151)
        told = {}
        for book in finite_books(152, 7):
            slow = Slow(book)
            runs = dice.sample(slow.runs, min(12, len(slow.runs)))
            for saying in sayings_for(dice, book):
                for run in runs:
                    wanted = slow.holds(saying, run)
                    told[wanted] = told.get(wanted, 0) + 1
                    self.same(holds_at(book, saying, run), wanted)
                    knowing = [each for each in parties_of_book(book) if slow.holds(('knows', (each,), saying), run)]
                    self.same(who_know(book, saying, run), tuple(knowing))
                    for parties in dice.sample(slow_sets(book), 2):
                        known = slow.holds(('knows', parties, saying), run)
                        self.same(self.check_twin(book, parties, saying, run, slow.holds), known)
        self.assertTrue(min(told.values()) > 200, told)

    def test_books_that_go_on_and_on(self):
        dice = random.Random(153)
        for book in (FREE, LOOSE, *some_put_together(154, 4, False, deeds=3, parts=2, states=6, parties='xyz')):
            near = Near(book, 5)
            for saying in sayings_for(dice, book, (0, 1, 1, 2), 4):
                for run in dice.sample(slow_runs(book, 2) + slow_runs(book, 3), 4):
                    self.same(holds_at(book, saying, run), near.holds(saying, run))
                    for parties in dice.sample(slow_sets(book), 2):
                        known = near.holds(('knows', parties, saying), run)
                        self.same(self.check_twin(book, parties, saying, run, near.holds), known)

    def test_not_above_knows(self):
        unheard = ('not', HEARD)
        # z does not know what it has not heard of, and knows that it does not; y, of whom alone z hears, knows it, too.
        self.same([holds_at(FREE, unheard, ('a', 'm')), who_know(FREE, unheard, ('a', 'm')),
                   who_know(FREE, unheard, ('a', 'm', 'n')), who_know(FREE, unheard, ())],
                  [True, ('y', 'z'), (), ('x', 'y', 'z')])
        # x, which has done a, knows it until it meets y.
        self.same([who_know(FREE, unheard, run) for run in (('a',), ('m',), ('a', 'm', 'a'), ('n', 'a'))],
                  [('x', 'y', 'z'), ('x', 'y', 'z'), ('y', 'z'), ('x', 'y', 'z')])
        self.same(holds_at(FREE, ('knows', ('x', 'y'), ('not', ('knows', ('x',), HEARD))), ('a', 'm')), True)

    def test_facts_of_each_sort(self):
        latest, even, at = ('latest', 'm', 'a'), ('modulo', 'a', 2, 0), ('at', (1, 2))
        self.same([who_know(FREE, latest, run) for run in (('m',), ('m', 'n'), ('m', 'a'), ('a', 'm', 'n'))],
                  [('x',), ('x',), (), ('x',)])
        self.same([who_know(FREE, ('not', latest), run) for run in ((), ('a',), ('m',), ('m', 'a'), ('a', 'n'))],
                  [('x', 'y'), ('x', 'y'), (), ('x',), ('x', 'y')])
        self.same([who_know(FREE, even, run) for run in ((), ('a', 'm'), ('a', 'a', 'm'))], [('x',), (), ('x',)])
        self.same([who_know(PLACES, at, run) for run in ((), ('a',), ('b',))], [(), ('x',), ('y',)])

    def test_states_that_no_run_reaches(self):
        # Whatever is said of the states 3 and 4 alone, everybody knows that it is not so.
        for run in ((), ('a',), ('b',)):
            self.same([who_know(PLACES, ('at', (3, 4)), run), who_know(PLACES, ('not', ('at', (3, 4))), run),
                       who_know(PLACES, ('at', (0, 1, 2)), run), twin_of(PLACES, ('x',), ('at', (0, 1, 2)), run)],
                      [(), ('x', 'y'), ('x', 'y'), None])
        self.same([holds_at(LOOSE, ('at', (2,)), ('a', 'm')), who_know(LOOSE, ('not', ('at', (2,))), ('a',))],
                  [False, ('x', 'y', 'z')])

    def test_sets_of_parties_know_together(self):
        both = ('and', ('done', 'a', 1), ('done', 'd', 1))
        run = ('a', 'd')
        self.same([who_know(FOUR, both, run), holds_at(FOUR, ('knows', ('w', 'z'), both), run),
                   holds_at(FOUR, ('knows', ('w', 'x'), both), run)], [(), True, False])
        self.same([twin_of(FOUR, ('w', 'z'), both, run), self.check_twin(FOUR, ('w', 'y'), both, run,
                                                                       Near(FOUR, 2).holds)], [None, False])

    def test_consequences(self):
        dice = random.Random(155)
        books = [*finite_books(156, 3), FREE, *some_put_together(157, 2, False, deeds=3, parts=2, states=8)]
        for book in books:
            runs = [run for length in range(4) for run in slow_runs(book, length)]
            for saying in sayings_for(dice, book, (0, 1, 2), 5):
                for run in dice.sample(runs, min(5, len(runs))):
                    self.check_consequences(dice, book, saying, run)

    def check_consequences(self, dice, book, saying, run):
        holds = holds_at(book, saying, run)
        for other in slow_alike(book, run):
            self.same(holds_at(book, saying, other), holds)
        self.same(twin_of(book, slow_sets(book)[-1], saying, run) is None, holds)
        for parties in dice.sample(slow_sets(book), min(4, len(slow_sets(book)))):
            known = holds_at(book, ('knows', parties, saying), run)
            self.same(twin_of(book, parties, saying, run) is None, known)
            past = past_of(book, run, parties)
            self.same(holds_at(book, ('knows', parties, saying), past), known)
            if known:
                self.same(holds, True)
                if saying[0] != 'knows' or saying[2][0] != 'knows':
                    self.same(holds_at(book, ('knows', parties, ('knows', parties, saying)), run), True)
                for more in slow_sets(book):
                    if set(parties) <= set(more):
                        self.same(twin_of(book, more, saying, run), None)
            for name, own in book[0]:
                if is_run(book, (*run, name)) and not set(own) & set(parties):
                    self.same(twin_of(book, parties, saying, (*run, name)) is None, known)

    def test_runs_of_forty_deeds(self):
        run = ('n',) + ('a', 'm') * 19 + ('n',)
        saying = ('knows', ('z',), ('knows', ('y',), ('and', ('done', 'a', 3), ('modulo', 'm', 3, 1))))
        self.same([holds_at(FREE, saying, run), who_know(FREE, saying, run), holds_at(FREE, saying, run[:39])],
                  [False, (), False])
        self.same([who_know(FREE, ('done', 'a', 3), run), who_know(FREE, ('done', 'a', 3), run[:39])],
                  [('x', 'y', 'z'), ('x', 'y')])

    def test_first_parameter_that_cannot_be_used(self):
        for odd in (*NO_BOOKS, Book(*FREE)):
            for function in (holds_at, who_know):
                self.unusable('book', function, odd, DONE, ())
                self.unusable('book', function, odd, odd, odd)
            self.unusable('book', twin_of, odd, ('x',), DONE, ())
            self.unusable('book', twin_of, odd, None, None, None)
        for odd in NO_SAYINGS:
            for function in (holds_at, who_know):
                self.unusable('saying', function, FREE, odd, ())
                self.unusable('saying', function, FREE, odd, None)
            self.unusable('saying', twin_of, FREE, ('x',), odd, ())
            self.unusable('saying', twin_of, FREE, ('x',), odd, odd)
        for odd in (*NO_ROWS, ('m',), ('a', 'a')):
            if odd != () or isinstance(odd, list):
                for function in (holds_at, who_know):
                    self.unusable('run', function, LOOSE, DONE, odd)
                self.unusable('run', twin_of, LOOSE, ('x',), DONE, odd)
        for odd in NO_PARTIES:
            self.unusable('parties', twin_of, FREE, odd, DONE, ())
            self.unusable('parties', twin_of, FREE, odd, None, None)

    def test_arguments_by_name(self):
        given = {'run': ('a', 'm'), 'saying': ('done', 'a', 1), 'book': FREE}
        self.same([holds_at(**given), who_know(**given), twin_of(parties=('y',), **given)], [True, ('x', 'y'), None])
