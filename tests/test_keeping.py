"""Promise [52] and guarantee (T6): books in which the parties of a deed that is allowed know that it is."""

import random

from toldall.bookchanges import beside_books
from toldall.bookclasses import Book
from toldall.keeping import keeps_itself, slip_of
from toldall.runs import is_run
from tests.cases import BOTH, EITHER, FREE, LOOSE, Case, slow_apart, slow_end, slow_exchange, slow_runs, some_machines
from tests.sayings import PLACES, Slow, finite_books, slow_past_row, some_put_together
from tests.test_bookchanges import NO_BOOKS
from tests.test_coming import FIRST, THEN
from tests.told import names_in

# In state 1 a and b bar each other; in LATER c leads there, in HIDDEN no run does.
LATER = ((('a', ('x',)), ('b', ('y',)), ('c', ('x', 'y'))), ((('c', 1),), (('a', 2), ('b', 2)), ()))
HIDDEN = (LATER[0], ((('a', 0), ('c', 0)), (('a', 2), ('b', 2)), ()))
LOOP = ((('q', ('u',)),), ((('q', 0),),))


def slow_keeps(book, runs, twins):
    """Whether each deed, where it is allowed, is allowed behind all twins of the run for its parties."""
    return all(slow_end(book, (*other, name)) is not None for run in runs for name, own in book[0]
               if slow_end(book, (*run, name)) is not None for other in twins(run, own))


def near_twins(book, most):
    """For a run and parties the past with at most so many deeds without the parties behind it."""
    def twins(run, parties):
        names = [name for name, own in book[0] if not set(own) & set(parties)]
        runs = [slow_past_row(book, run, parties)]
        start = len(runs[0])
        for one in runs:
            if len(one) < start + most:
                runs += [(*one, name) for name in names if slow_end(book, (*one, name)) is not None]
        return runs
    return twins


class KeepingTest(Case):

    def check(self, book):
        """Whether the book keeps itself; a slip is looked through by its words."""
        keeps, slip = keeps_itself(book), slip_of(book)
        self.same(keeps, slip is None)
        if slip is not None:
            self.assertIs(slip.__class__, tuple)
            run, deed, other = slip
            self.assertIs(run.__class__, tuple)
            self.same([is_run(book, run), is_run(book, (*run, deed)), is_run(book, (*run, other)),
                       slow_apart(book, deed, other), is_run(book, (*run, other, deed))], [True, True, True, True, False])
        return keeps

    def test_document(self):
        self.same([keeps_itself(FREE), keeps_itself(EITHER), slip_of(FREE), slip_of(EITHER)[0]], [True, False, None, ()])

    def test_by_hand(self):
        for book, wanted in ((FREE, True), (EITHER, False), (BOTH, True), (LOOSE, True), (PLACES, False), (THEN, True),
                             (FIRST, True), (LATER, False), (HIDDEN, True), (((('a', ('x',)),), ((),)), True)):
            self.same(self.check(book), wanted)
        self.same([slip_of(LATER)[0], set(slip_of(LATER)[1:]), slip_of(HIDDEN)], [('c',), {'a', 'b'}, None])

    def test_against_all_runs(self):
        told = {True: 0, False: 0}
        for book in finite_books(241, 25):
            slow = Slow(book)
            wanted = slow_keeps(book, slow.runs, slow.twins)
            told[wanted] += 1
            self.same(self.check(book), wanted)
        self.assertTrue(min(told.values()) > 5, told)

    def test_books_that_go_on_and_on(self):
        told = {True: 0, False: 0}
        books = [book for book in some_machines(242, 400, deeds=3, states=3, odds=0.5) if slow_exchange(book) is None]
        books = [*books[:40], *some_put_together(243, 10, False, deeds=3, states=9)]
        books += [beside_books(book, LOOP) for book in finite_books(246, 10)]
        for book in books:
            runs = [run for length in range(4) for run in slow_runs(book, length)]
            wanted = slow_keeps(book, runs, near_twins(book, 2))
            told[wanted] += 1
            self.same(self.check(book), wanted)
        self.assertTrue(min(told.values()) > 5, told)

    def test_states_that_no_run_reaches(self):
        dice = random.Random(244)
        for book in (FREE, EITHER, BOTH, THEN, *finite_books(245, 4)):
            # Two deeds that are apart bar each other in the states behind, of which none is reached.
            many = len(book[1])
            pairs = [(i, j) for i in names_in(book) for j in names_in(book) if i < j and slow_apart(book, i, j)]
            i, j = dice.choice(pairs)
            more = (book[0], (*book[1], ((i, many + 1), (j, many + 2)), (), ()))
            self.same([self.check(more), slip_of(more)], [self.check(book), slip_of(book)])

    def test_what_is_no_book(self):
        for odd in (*NO_BOOKS, Book(*FREE)):
            self.unusable('book', keeps_itself, odd)
            self.unusable('book', slip_of, odd)

    def test_arguments_by_name(self):
        before = repr(EITHER)
        self.same([keeps_itself(book=EITHER), slip_of(book=FREE), repr(EITHER)], [False, None, before])
