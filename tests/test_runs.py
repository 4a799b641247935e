"""Promises [23] and [24]: runs, and generators of them."""

from itertools import islice

from toldall.errors import NotUsable
from toldall.runs import is_run, kinds_of_runs, lets_run, runs_of, state_after
from tests.cases import (BOTH, EITHER, FREE, LOOSE, ODD_DEEP, Case, slow_alike, slow_end, slow_runs,
                         some_books)
from tests.test_bookchanges import NO_BOOKS

NO_ROWS = (*ODD_DEEP, ['a'], 'a', ('a', 1), ('a', True), ('a', ('b',)), (['a'],), ('A',), ('x',), ('a', 'zz'))
FOUR = ((('a', ('w',)), ('b', ('x',)), ('c', ('y',)), ('d', ('z',))), ((('a', 0), ('b', 0), ('c', 0), ('d', 0)),))


class RunsTest(Case):

    def test_document(self):
        self.same([is_run(EITHER, ('a', 'b')), state_after(EITHER, ('b',)), lets_run(FREE, ('n', 'a'))], [False, 2, 0])
        self.bad_paper('allowed', 1, lets_run, EITHER, ('a', 'b'))
        self.same([list(runs_of(EITHER, 1)), list(runs_of(EITHER, 2)), len(list(runs_of(FREE, 2)))],
                  [[('a',), ('b',)], [], 9])
        self.same(list(kinds_of_runs(FREE, 2)), [('a', 'a'), ('a', 'm'), ('a', 'n'), ('m', 'a'), ('m', 'm'),
                                                 ('m', 'n'), ('n', 'm'), ('n', 'n')])

    def test_where_runs_lead(self):
        for book in (FREE, EITHER, BOTH, LOOSE):
            for length in range(4):
                for run in slow_runs(book, length):
                    end = slow_end(book, run)
                    self.same([is_run(book, run), lets_run(book, run), state_after(book, run)], [True, end, end])
        self.same([is_run(book=LOOSE, thing=('a', 'n')), lets_run(book=LOOSE, thing=('a', 'n')),
                   state_after(book=LOOSE, run=('a', 'm', 'n', 'a'))], [True, 1, 1])
        self.same([is_run(FREE, ('a', 'm', 'n') * 13 + ('a',)), state_after(FREE, ('n',) * 40)], [True, 0])

    def test_no_runs(self):
        for odd in (*NO_ROWS, ('b', 'a'), ('a', 'a')):
            if odd != () or isinstance(odd, list):
                self.same(is_run(EITHER, odd), False)
                self.unusable('run', state_after, EITHER, odd)
        for row in (('a', 'a'), ('m',), ('n', 'm'), ('a', 'm', 'm')):
            self.same(is_run(LOOSE, row), False)
            self.unusable('run', state_after, LOOSE, row)

    def test_first_fault_of_a_run(self):
        for odd in ODD_DEEP:
            if not isinstance(odd, tuple):
                self.bad_paper('shape', -1, lets_run, FREE, odd)
            self.bad_paper('name', 0, lets_run, FREE, (odd,))
            self.bad_paper('name', 2, lets_run, FREE, ('a', 'm', odd, None))
        for word, at, row in (('name', 0, ('b',)), ('name', 0, ('x', 'a')), ('name', 1, ('a', ['a'])),
                              ('allowed', 0, ('m',)), ('allowed', 1, ('a', 'a', 'none')), ('name', 1, ('a', 'A', 'a')),
                              ('allowed', 2, ('a', 'n', 'a')), ('allowed', 1, ('n', 'm', 1)), ('name', 0, (1, 'm'))):
            self.bad_paper(word, at, lets_run, LOOSE, row)
        self.bad_paper('name', 1, lets_run, EITHER, ('a', 'c'))

    def test_first_parameter_that_cannot_be_used(self):
        for odd in NO_BOOKS:
            for function in (is_run, lets_run, state_after):
                self.unusable('book', function, odd, ())
                self.unusable('book', function, odd, odd)
            for function in (runs_of, kinds_of_runs):
                self.unusable('book', next, function(odd, 1))
                self.unusable('book', next, function(odd, odd))

    def test_generators_raise_when_the_first_result_is_asked_for(self):
        for function in (runs_of, kinds_of_runs):
            for odd in (*ODD_DEEP, -1, True, False, '1', (1,), None):
                if odd in (0, 1, 10 ** 59) and not isinstance(odd, bool):
                    continue
                results = function(FREE, odd)
                self.assertIs(iter(results), results)
                with self.assertRaises(NotUsable) as caught:
                    next(results)
                self.same(vars(caught.exception), {'word': 'length', 'at': -1})

    def test_generators_yield_one_by_one(self):
        for function in (runs_of, kinds_of_runs):
            results = function(FOUR, 40)
            self.same(next(results), ('a',) * 40)
            self.same(next(results), ('a',) * 39 + ('b',))
            self.assertEqual(results.__class__.__name__, 'generator')
            self.same(list(function(book=EITHER, length=0)), [()])
            self.same(list(function(book=EITHER, length=1)), [('a',), ('b',)])
            for length in (2, 3, 4, 12, 10 ** 59):
                self.same(list(function(EITHER, length)), [])
        self.assertEqual(len(list(islice(kinds_of_runs(FOUR, 12), 2000))), 455)

    def test_all_runs_of_a_length(self):
        for book in (FREE, EITHER, BOTH, LOOSE, *some_books(51, 40, deeds=3, states=4, odds=0.7)):
            for length in range(6):
                self.same(list(runs_of(book, length)), slow_runs(book, length))

    def test_one_run_of_each_kind(self):
        chosen = [*some_books(52, 40, deeds=3, states=3, odds=0.8), *some_books(53, 20, deeds=4, states=2, odds=0.9)]
        for book in (FREE, EITHER, BOTH, LOOSE, FOUR, *chosen):
            for length in range(5):
                wanted = [run for run in slow_runs(book, length) if slow_alike(book, run)[0] == run]
                self.same(list(kinds_of_runs(book, length)), wanted)

    def test_runs_that_end_early_are_left(self):
        # Most rows end in state 1, one alone goes on.
        deeds = tuple((name, ('x',)) for name in 'abcdef')
        states = (tuple((name, 0 if name == 'f' else 1) for name in 'abcdef'), tuple((name, 2) for name in 'abcdef'), ())
        self.same(list(islice(runs_of((deeds, states), 40), 1)), [('f',) * 38 + ('a', 'a')])
        self.same(len(list(runs_of((deeds, states), 40))), 36)
        self.same(len(list(kinds_of_runs((deeds, states), 40))), 36)
