"""Promises [57] and [58], and guarantee (T10): books that are alike to some parties."""

import random
from itertools import product

from toldall.bookchanges import both_books
from toldall.bookclasses import Book
from toldall.likeness import are_alike_to, parting_past
from toldall.merging import least_machine, parting_row
from tests.cases import BOTH, EITHER, FREE, LOOSE, ONEWAY, SPLIT, Case, slow_end, some_deeds
from tests.sayings import PLACES, finite_books, put_together, slow_past_row, slow_sets, some_parts
from tests.test_bookchanges import NO_BOOKS
from tests.test_pasts import NO_PARTIES
from tests.told import names_in


def without(book, name):
    """The book in which the deed is not allowed, but is still one."""
    return book[0], tuple(tuple(step for step in state if step[0] != name) for state in book[1])


def at_most(book, name, many):
    """The book in which the deed can be done so often at most."""
    counts = tuple(tuple((each, at + 1 if each == name else at) for each in names_in(book) if each != name or at < many)
                   for at in range(many + 1))
    return both_books(book, (book[0], counts))


def free(book):
    """The book with the same deeds, always allowed."""
    return book[0], (tuple((name, 0) for name in names_in(book)),)


def is_past(book, row, parties):
    return slow_end(book, row) is not None and slow_past_row(book, row, parties) == row


def slow_parting(book, other, parties, most):
    """The shortest row of at most so many deeds that is a past by just one of the books, None without any."""
    for length in range(most + 1):
        for row in product(names_in(book), repeat=length):
            if is_past(book, row, parties) != is_past(other, row, parties):
                return row
    return None


def some_other(dice, book):
    """Another book with the same deeds."""
    parts = dice.choice((2, 3))
    made = put_together(book[0], some_parts(dice, book[0], parts, lambda k: range(parts)))
    return made if len(made[1]) <= 16 else book


def pairs_of_books(seed):
    dice = random.Random(seed)
    books = [FREE, EITHER, BOTH, LOOSE, PLACES, *finite_books(seed + 1, 3)[3:]]
    found = []
    for book in books:
        name = dice.choice(names_in(book))
        found += [(book, book), (book, without(book, name)), (book, at_most(book, name, 2)), (book, free(book)),
                  (at_most(book, name, 1), at_most(book, name, 2)), (book, some_other(dice, book)),
                  (some_other(dice, book), some_other(dice, book)), (book, least_machine(book))]
    for _ in range(6):
        deeds = some_deeds(dice, 'abcde', 'xyz', 3)
        one = put_together(deeds, some_parts(dice, deeds, 2, lambda k: range(2)))
        found += [(one, some_other(dice, one)), (one, at_most(one, dice.choice(names_in(one)), 1))]
    return found


class LikenessTest(Case):

    def test_document(self):
        self.same([are_alike_to(EITHER, BOTH, ('x',)), are_alike_to(EITHER, BOTH, ('y',)),
                   parting_past(EITHER, BOTH, ('x', 'y'))], [True, True, ('a', 'b')])

    def test_by_hand(self):
        for book, other, parties, wanted in (
                (FREE, FREE, ('z',), None), (FREE, without(FREE, 'a'), ('z',), ('a', 'm', 'n')),
                (FREE, without(FREE, 'a'), ('x',), ('a',)), (FREE, without(FREE, 'n'), ('x',), ('n', 'm')),
                (FREE, at_most(FREE, 'a', 2), ('x', 'y'), ('a', 'a', 'a')),
                (FREE, at_most(FREE, 'a', 2), ('z',), ('a', 'a', 'a', 'm', 'n')),
                (at_most(FREE, 'a', 1), at_most(FREE, 'a', 2), ('y',), ('a', 'a', 'm')),
                (without(FREE, 'm'), without(without(FREE, 'm'), 'a'), ('y', 'z'), None),
                (EITHER, free(EITHER), ('x',), ('a', 'a')), (EITHER, free(EITHER), ('x', 'y'), ('a', 'a')),
                (without(EITHER, 'a'), EITHER, ('y',), None), (PLACES, EITHER, ('x', 'y'), None)):
            for one, two in ((book, other), (other, book)):
                self.same([parting_past(one, two, parties), are_alike_to(one, two, parties)], [wanted, wanted is None])

    def test_against_all_rows_of_few_deeds(self):
        told = {}
        for book, other in pairs_of_books(251):
            for parties in slow_sets(book):
                wanted = slow_parting(book, other, parties, 5)
                for one, two in ((book, other), (other, book)):
                    got = parting_past(one, two, parties)
                    self.same(are_alike_to(one, two, parties), got is None)
                    if wanted is not None:
                        self.same(got, wanted)
                    elif got is not None:
                        self.assertTrue(len(got) > 5)
                        self.assertTrue(is_past(one, got, parties) != is_past(two, got, parties))
                many = 'none' if wanted is None else min(len(wanted), 3)
                told[many] = told.get(many, 0) + 1
        self.assertTrue(min(told.get(many, 0) for many in ('none', 1, 2, 3)) > 5, told)

    def test_finite_books_exactly(self):
        dice = random.Random(252)
        told = {True: 0, False: 0}
        for book in finite_books(253, 4):
            name = dice.choice(names_in(book))
            for other in (book, without(book, name), at_most(book, name, 1), least_machine(book)):
                for parties in slow_sets(book):
                    wanted = slow_parting(book, other, parties, 6)
                    told[wanted is None] += 1
                    self.same([parting_past(book, other, parties), parting_past(other, book, parties)], [wanted, wanted])
        self.assertTrue(min(told.values()) > 20, told)

    def test_consequences(self):
        for book, other in pairs_of_books(254):
            sets = slow_sets(book)
            alike = {parties: are_alike_to(book, other, parties) for parties in sets}
            self.same([alike[sets[-1]], parting_past(book, other, sets[-1])],
                      [parting_row(book, other) is None, parting_row(book, other)])
            self.same(alike[sets[-1]], least_machine(book) == least_machine(other))
            for parties in sets:
                for within in sets:
                    if set(within) <= set(parties) and alike[parties]:
                        self.same(alike[within], True)

    def test_books_that_are_alike_to_some_alone(self):
        # y may do b only as long as a was not done; neither x nor y hears of the other's deed.
        told = {(are_alike_to(book, other, ('x',)), are_alike_to(book, other, ('x', 'y')))
                for book, other in ((EITHER, BOTH), (EITHER, EITHER), (EITHER, free(EITHER)))}
        self.same(sorted(told), [(False, False), (True, False), (True, True)])

    def test_first_parameter_that_cannot_be_used(self):
        for function in (are_alike_to, parting_past):
            for odd in (*NO_BOOKS, Book(*EITHER)):
                self.unusable('book', function, odd, EITHER, ('x',))
                self.unusable('book', function, odd, odd, odd)
            for odd in (*NO_BOOKS, SPLIT, ONEWAY, Book(*EITHER), FREE, (FREE[0][:2], ((),)), (EITHER[0][:1], ((),)),
                        ((('a', ('x',)), ('b', ('x', 'y'))), ((),)), ((('a', ('x',)), ('c', ('y',))), ((),))):
                self.unusable('other', function, EITHER, odd, ('x',))
                self.unusable('other', function, EITHER, odd, odd)
            for odd in (*NO_PARTIES, ('z',), ('x', 'z')):
                self.unusable('parties', function, EITHER, BOTH, odd)

    def test_arguments_by_name(self):
        before = repr((EITHER, BOTH))
        self.same([are_alike_to(parties=('x',), other=BOTH, book=EITHER), parting_past(parties=('x', 'y'), book=EITHER, other=BOTH)],
                  [True, ('a', 'b')])
        self.same(repr((EITHER, BOTH)), before)
