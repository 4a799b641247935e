"""Promises [59] and [60]: from which own deed on each party knows a saying, as objects."""

import random

from toldall.bookclasses import Book
from toldall.coming import knows_from
from toldall.holding import who_know
from toldall.sayingclasses import Saying
from toldall.soonest import soonest_row
from toldall.tellingclasses import Telling
from tests.cases import BOTH, EITHER, FREE, LOOSE, Case, slow_runs
from tests.papers import own_deeds
from tests.sayings import (DONE, HEARD, NO_SAYINGS, PLACES, Slow, finite_books, parties_of_book, saying_of_depth,
                           some_put_together)
from tests.test_bookchanges import NO_BOOKS
from tests.test_coming import FIRST, NEVER, THEN
from tests.test_pasts import NO_PARTIES
from tests.test_runs import NO_ROWS

ALWAYS = ('or', DONE, ('not', DONE))


def cases(seed, depths=(0, 1, 1)):
    dice = random.Random(seed)
    books = [FREE, EITHER, BOTH, LOOSE, PLACES, THEN, FIRST, *finite_books(seed + 1, 3)[3:],
             *some_put_together(seed + 2, 3, False, deeds=3, parts=2, states=8)]
    return [(book, saying_of_depth(dice, book, depth, 4)) for book in books for depth in depths]


class TellingTest(Case):

    def test_document(self):
        telling = Telling(EITHER, NEVER)
        self.same([telling['x'], 'y' in telling, len(telling), str(telling), telling(('a',)), telling.soonest('x', ())],
                  [1, True, 2, 'x:1 y:2', ('x', 'y'), ('a',)])

    def test_properties(self):
        for book, saying in cases(281):
            telling = Telling(saying=saying, book=book)
            numbers = tuple((party, knows_from(book, party, saying)) for party in parties_of_book(book))
            self.same([telling.book, telling.saying, telling.numbers], [book, saying, numbers])
            self.same([list(telling), [telling[party] for party in telling]],
                      [parties_of_book(book), [number for party, number in numbers]])
            told = [party for party, number in numbers if number is not None]
            self.same([len(telling), [party for party in telling if party in telling]], [len(told), told])
            self.same(str(telling), ' '.join(f'{party}:{"-" if number is None else number}' for party, number in numbers))
            for name in ('book', 'saying', 'numbers'):
                with self.assertRaises(AttributeError):
                    setattr(telling, name, ())

    def test_none_in_numbers(self):
        telling = Telling(FREE, DONE)
        self.same([telling.numbers, str(telling), len(telling)], [(('x', None), ('y', None), ('z', None)), 'x:- y:- z:-', 0])
        self.same([telling['z'], 'z' in telling, list(telling)], [None, False, ['x', 'y', 'z']])
        telling = Telling(FREE, ('or', ('not', DONE), ('knows', ('x',), DONE)))
        self.same(telling.numbers, (('x', 0), ('y', 0), ('z', 0)))
        self.same([0 in telling, 'x' in telling, len(telling)], [False, True, 3])
        telling = Telling(FIRST, ('done', 'b', 1))
        self.same([telling.numbers, str(telling), 'y' in telling, len(telling)], [(('x', 1), ('y', None)), 'x:1 y:-', False, 1])

    def test_values_of_other_kinds(self):
        for telling in (Telling(FREE, DONE), Telling(EITHER, NEVER), Telling(FREE, ALWAYS)):
            for odd in (*[odd for odd in NO_PARTIES if odd != 'x'], 'a', 'w', 'Telling', Book(*FREE), telling, FREE, DONE):
                self.same(odd in telling, False)
                self.unusable('party', lambda value: telling[value], odd)
                self.unusable('party', telling.soonest, odd, ())
                self.unusable('party', telling.soonest, odd, odd)
        self.unusable('party', lambda value: Telling(EITHER, NEVER)[value], 'z')

    def test_called(self):
        dice = random.Random(282)
        for book, saying in cases(283, (0, 1)):
            telling = Telling(book, saying)
            runs = [run for length in range(4) for run in slow_runs(book, length)]
            for run in dice.sample(runs, min(4, len(runs))):
                self.same([telling(run), telling(run=run)], [who_know(book, saying, run)] * 2)
                for party in telling:
                    self.same([telling.soonest(party, run), telling.soonest(run=run, party=party)],
                              [soonest_row(book, (party,), saying, run)] * 2)

    def test_rows_that_are_no_runs(self):
        telling = Telling(EITHER, NEVER)
        for odd in (*NO_ROWS, ('a', 'b'), ('m',), ['a'], telling):
            if odd != ():
                self.unusable('run', telling, odd)
                self.unusable('run', telling.soonest, 'x', odd)

    def test_sooner_than(self):
        made = [Telling(book, saying) for book, saying in cases(284)]
        told = {True: 0, False: 0}
        for one in made:
            for other in made:
                if list(one) == list(other):
                    wanted = all(number is None and over is None or number is not None and (over is None or number <= over)
                                 for (party, number), (party, over) in zip(one.numbers, other.numbers))
                    told[wanted] += 1
                    self.same([one.sooner_than(other), one.sooner_than(other=other)], [wanted, wanted])
                else:
                    self.unusable('other', one.sooner_than, other)
        self.assertTrue(min(told.values()) > 50, told)
        never, always = Telling(FREE, DONE), Telling(FREE, ALWAYS)
        self.same([never.sooner_than(never), always.sooner_than(never), never.sooner_than(always)], [True, True, False])
        one, other = Telling(EITHER, NEVER), Telling(EITHER, ('not', DONE))
        self.same([one.numbers, other.numbers], [(('x', 1), ('y', 2)), (('x', 2), ('y', 1))])
        self.same([one.sooner_than(other), other.sooner_than(one)], [False, False])

    def test_sooner_than_other_values(self):
        telling = Telling(EITHER, NEVER)
        for odd in (*NO_BOOKS, telling.numbers, Book(*EITHER), Saying(EITHER, NEVER), Telling(FREE, DONE), NEVER):
            self.unusable('other', telling.sooner_than, odd)

    def test_equal(self):
        made = [Telling(book, saying) for book, saying in cases(285)]
        told = {True: 0, False: 0}
        for one in made:
            for other in made:
                told[one.numbers == other.numbers] += 1
                self.same([one == other, one != other], [one.numbers == other.numbers, one.numbers != other.numbers])
        self.assertTrue(min(told.values()) > len(made), told)
        one = Telling(FREE, DONE)
        self.same(one == Telling((FREE[0], FREE[1] * 2), ('done', 'm', 1)), True)
        for odd in (*NO_BOOKS, one.numbers, (FREE, DONE), str(one), Book(*FREE), Saying(FREE, DONE), HEARD):
            self.same([one == odd, odd == one, one != odd], [False, False, True])

    def test_equal_numbers_of_other_parties(self):
        book = ((('b', ('x', 'w')[::-1]),), ((('b', 0),),))
        other = ((('b', ('x', 'y')),), ((('b', 0),),))
        one, two = Telling(book, ('done', 'b', 1)), Telling(other, ('done', 'b', 1))
        self.same([one.numbers, two.numbers, one == two], [(('w', 1), ('x', 1)), (('x', 1), ('y', 1)), False])
        self.unusable('other', one.sooner_than, two)

    def test_consequences(self):
        for book in finite_books(286, 4):
            slow = Slow(book)
            dice = random.Random(287)
            for saying in [saying_of_depth(dice, book, depth, 4) for depth in (0, 1, 1)]:
                telling = Telling(book, saying)
                for party, number in telling.numbers:
                    known = [(own_deeds(book, party, run), slow.holds(('knows', (party,), saying), run)) for run in slow.runs]
                    self.same([knows for many, knows in known if many >= number], [True] * len(
                        [many for many, knows in known if many >= number]))
                    if number > 0:
                        self.assertIn((number - 1, False), known)
                    self.same(knows_from(book, party, ('knows', (party,), saying)), number)

    def test_both_sayings_are_known_no_later(self):
        tried = 0
        for (book, one), (same, other) in zip(cases(288), cases(289)):
            if book != same:
                continue
            both = Telling(book, ('and', one, other))
            for party in both:
                if party in both:
                    for each in (Telling(book, one), Telling(book, other)):
                        tried += 1
                        self.assertTrue(party in each and each[party] <= both[party])
        self.assertTrue(tried > 5, tried)

    def test_what_makes_no_telling(self):
        for odd in (*NO_BOOKS, Book(*FREE)):
            self.unusable('book', Telling, odd, DONE)
            self.unusable('book', Telling, odd, odd)
        for odd in (*NO_SAYINGS, Saying(FREE, DONE)):
            self.unusable('saying', Telling, FREE, odd)

    def test_two_tellings(self):
        before = repr((EITHER, NEVER))
        one, other = Telling(EITHER, NEVER), Telling(FREE, DONE)
        self.same([str(one), str(other), str(one), one(()), other(())], ['x:1 y:2', 'x:- y:- z:-', 'x:1 y:2', ('y',), ()])
        self.same(repr((EITHER, NEVER)), before)
