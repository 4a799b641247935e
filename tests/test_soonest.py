"""Promises [50] and [61], and of guarantee (T9) the fewest deeds until parties know a saying."""

import random
from itertools import product

from toldall.bookchanges import with_listener
from toldall.bookclasses import Book
from toldall.coming import knows_from
from toldall.holding import holds_at, twin_of
from toldall.runs import is_run
from toldall.soonest import soonest_row
from tests.cases import EITHER, FREE, LOOSE, Case, slow_end, slow_runs
from tests.sayings import (DONE, HEARD, NO_SAYINGS, Near, Slow, finite_books, saying_of_depth, slow_sets,
                           some_put_together)
from tests.test_bookchanges import NO_BOOKS
from tests.test_coming import THEN
from tests.test_pasts import NO_PARTIES
from tests.test_runs import NO_ROWS
from tests.told import names_in


def slow_soonest(book, known, run, holds, most):
    """The shortest row of at most so many deeds, of several the least, behind which it is known; None without any."""
    for length in range(most + 1):
        for row in product(names_in(book), repeat=length):
            if slow_end(book, run + row) is not None and holds(known, run + row):
                return row
    return None


class SoonestTest(Case):

    def test_document(self):
        self.same([soonest_row(FREE, ('z',), ('done', 'a', 1), ()), soonest_row(FREE, ('x',), HEARD, ('a', 'm'))],
                  [('a', 'm', 'n'), ('n', 'm')])

    def test_by_hand(self):
        for book, parties, saying, run, wanted in (
                (FREE, ('x',), DONE, ('a',), ()), (FREE, ('x', 'y', 'z'), HEARD, ('a', 'm', 'n'), ()),
                (FREE, ('z',), DONE, ('m', 'a'), ('m', 'n')), (FREE, ('y',), DONE, ('n', 'a', 'n'), ('m',)),
                (FREE, ('x', 'z'), DONE, (), ('a',)), (FREE, ('y', 'z'), DONE, (), ('a', 'm')),
                (FREE, ('z',), ('not', ('done', 'a', 1)), ('a',), None), (FREE, ('z',), ('not', DONE), (), None),
                (FREE, ('x',), ('not', DONE), (), ()), (FREE, ('x',), ('not', DONE), ('a',), None),
                (EITHER, ('x',), ('not', ('done', 'b', 1)), (), ('a',)), (EITHER, ('x',), ('done', 'b', 1), (), None),
                (EITHER, ('x', 'y'), ('or', DONE, ('done', 'b', 1)), (), ('a',)), (EITHER, ('y',), DONE, ('a',), None),
                (FREE, ('y',), ('or', ('done', 'm', 1), ('done', 'n', 1)), (), ('m',)),
                (FREE, ('x',), ('modulo', 'm', 2, 1), ('m', 'm'), ('m',)), (LOOSE, ('z',), DONE, ('n', 'a', 'n'), ('m', 'n')),
                (LOOSE, ('y',), ('done', 'a', 2), (), ('a', 'm', 'a', 'm'))):
            self.same(soonest_row(book, parties, saying, run), wanted)

    def test_runs_of_forty_deeds(self):
        self.same(soonest_row(FREE, ('z',), DONE, ('m', 'n') * 20), ('a', 'm', 'n'))
        self.same(soonest_row(FREE, ('z',), HEARD, ('a',) * 38 + ('m',) * 2), ('n',))
        self.same(soonest_row(FREE, ('y',), ('knows', ('z',), ('done', 'm', 3)), ('a',) * 38 + ('m',) * 2), ('m', 'n'))
        self.same(soonest_row(THEN, ('y',), ('done', 'b', 1), ('a', 'c') * 20), None)

    def test_against_all_runs(self):
        dice = random.Random(211)
        told = {}
        for book in finite_books(212, 5):
            slow = Slow(book)
            most = max(len(run) for run in slow.runs)
            for depth in (0, 0, 1, 1, 2):
                saying = saying_of_depth(dice, book, depth, 3)
                for parties in dice.sample(slow_sets(book), 2):
                    for run in ((), *dice.sample(slow.runs, min(4, len(slow.runs)))):
                        wanted = slow_soonest(book, ('knows', parties, saying), run, slow.holds, min(most, 4))
                        got = soonest_row(book, parties, saying, run)
                        if most > 4 and wanted is None:
                            self.assertTrue(got is None or len(got) > 4)
                        else:
                            self.same(got, wanted)
                        told[wanted is None or len(wanted)] = told.get(wanted is None or len(wanted), 0) + 1
        self.assertTrue(min(told.get(many, 0) for many in (True, 0, 1, 2)) > 1, told)

    def test_books_that_go_on_and_on(self):
        dice = random.Random(213)
        told = set()
        for book in (FREE, LOOSE, THEN, *some_put_together(214, 4, False, deeds=3, parts=2, states=6)):
            near = Near(book, 4)
            runs = [run for length in range(3) for run in slow_runs(book, length)]
            for depth in (0, 0, 1):
                saying = saying_of_depth(dice, book, depth, 3)
                for parties in dice.sample(slow_sets(book), 2):
                    for run in dice.sample(runs, 2):
                        wanted = slow_soonest(book, ('knows', parties, saying), run, near.holds, 3)
                        got = soonest_row(book, parties, saying, run)
                        told.add(wanted is None or len(wanted))
                        if wanted is None:
                            self.assertTrue(got is None or len(got) > 3)
                        else:
                            self.same(got, wanted)
        self.assertTrue({True, 0, 2} <= told, told)

    def test_long_rows_are_runs_behind_which_it_is_known(self):
        dice = random.Random(215)
        long = 0
        for book in (FREE, *some_put_together(216, 12, False, deeds=4, parts=3, states=12)):
            for parties in slow_sets(book):
                saying = saying_of_depth(dice, book, dice.choice((0, 1)), 3)
                row = soonest_row(book, parties, saying, ())
                if row is not None:
                    long += len(row) > 3
                    self.assertIs(row.__class__, tuple)
                    self.same([is_run(book, row), twin_of(book, parties, saying, row)], [True, None])
                    self.same([k for k in range(len(row)) if twin_of(book, parties, saying, row[:k]) is None], [])
        self.assertTrue(long > 1, long)

    def test_consequences(self):
        dice = random.Random(217)
        tried = 0
        for book in (FREE, EITHER, *finite_books(218, 2)):
            sets = slow_sets(book)
            for saying in [saying_of_depth(dice, book, depth, 4) for depth in (0, 1)]:
                rows = {parties: soonest_row(book, parties, saying, ()) for parties in sets}
                for parties, row in rows.items():
                    if row:
                        tried += 1
                        self.assertTrue(set(dict(book[0])[row[-1]]) & set(parties))
                    for others, longer in rows.items():
                        if set(parties) <= set(others) and row is not None:
                            self.assertTrue(longer is not None and len(longer) <= len(row))
        self.assertTrue(tried > 10, tried)

    def test_a_listener_more_can_make_the_number_greater(self):
        # a is done at most once; with x as a listener it can be the first of its own deeds.
        book = ((('a', ('y',)), ('b', ('x',))), ((('a', 1), ('b', 0)), (('b', 1),)))
        saying = ('done', 'b', 1)
        self.same([knows_from(book, 'x', saying), knows_from(with_listener(book, 'a', 'x'), 'x', saying)], [1, 2])

    def test_first_parameter_that_cannot_be_used(self):
        for odd in (*NO_BOOKS, Book(*FREE)):
            self.unusable('book', soonest_row, odd, ('x',), DONE, ())
            self.unusable('book', soonest_row, odd, odd, odd, odd)
        for odd in NO_PARTIES:
            self.unusable('parties', soonest_row, FREE, odd, DONE, ())
            self.unusable('parties', soonest_row, FREE, odd, odd, None)
        for odd in NO_SAYINGS:
            self.unusable('saying', soonest_row, FREE, ('x',), odd, ())
            self.unusable('saying', soonest_row, FREE, ('x',), odd, odd if odd != () else None)
        for odd in NO_ROWS:
            if odd != ():
                self.unusable('run', soonest_row, FREE, ('x',), DONE, odd)
        self.unusable('run', soonest_row, LOOSE, ('x',), DONE, ('a', 'a'))

    def test_arguments_by_name(self):
        self.same(soonest_row(run=('a', 'm'), saying=HEARD, parties=('x',), book=FREE), ('n', 'm'))
        self.same(holds_at(FREE, ('knows', ('x',), HEARD), ('a', 'm', 'n', 'm')), True)
