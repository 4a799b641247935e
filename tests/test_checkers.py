"""Promises [12] and [13]: lets_machine and lets_book."""

from toldall.bookchecker import lets_book
from toldall.kinds import is_book, is_machine
from toldall.machinechecker import lets_machine
from tests.cases import (BOTH, EITHER, FREE, LOOSE, ODD_DEEP, ONEWAY, SPLIT, Case, slow_exchange, some_books,
                         some_machines)

DEEDS = EITHER[0]
A, B = DEEDS

# What both checkers refuse, with the word and the place.
WRONG = (
    ((DEEDS,), 'shape', -1), ((DEEDS, ((),), ()), 'shape', -1), ([DEEDS, ((),)], 'shape', -1),
    ((list(DEEDS), ((),)), 'shape', -1), ((DEEDS, [()]), 'shape', -1), (((), ((),)), 'shape', -1),
    ((DEEDS, ()), 'shape', -1), (((), ()), 'shape', -1), (('ab', ((),)), 'shape', -1), ((DEEDS, 'ab'), 'shape', -1),
    ((DEEDS, None), 'shape', -1), ((('x',), ()), 'shape', -1), (('', ''), 'shape', -1), ((DEEDS, 1), 'shape', -1),
    (DEEDS, 'deed', 0), (((1, A), ((),)), 'deed', 0), (((A, None), ((),)), 'deed', 1), (((A, ['b', ('y',)]), ((),)), 'deed', 1),
    (((A, ('b', ())), ((),)), 'deed', 1), (((('a', ('y', 'x')),), ((),)), 'deed', 0),
    (((('a', ('x', True)),), ((),)), 'deed', 0), (((B, A), ((),)), 'order', 1), (((A, A), ((),)), 'order', 1),
    (((A, B, A), ((),)), 'order', 2), (((A, ('a', ('y',))), ((),)), 'order', 1),
    (((B, A, 1), ((),)), 'order', 1), (((B, 1, A), ((),)), 'deed', 1), (((A, A, 1), (None,)), 'order', 1),
    ((DEEDS, (None,)), 'state', 0), ((DEEDS, ((), [])), 'state', 1), ((DEEDS, ((), 'a')), 'state', 1),
    ((DEEDS, ([('a', 0)],)), 'state', 0), ((DEEDS, (1, 2)), 'state', 0),
    ((DEEDS, (('a', 0),)), 'step', (0, 0)), ((DEEDS, ((), (None,))), 'step', (1, 0)),
    ((DEEDS, ((('a', 0), ['b', 0]),)), 'step', (0, 1)), ((DEEDS, ((('a', 0, 0),),)), 'step', (0, 0)),
    ((DEEDS, ((('a',),),)), 'step', (0, 0)), ((DEEDS, ((('c', 0),),)), 'step', (0, 0)),
    ((DEEDS, ((('aa', 0),),)), 'step', (0, 0)), ((DEEDS, (((['a'], 0),),)), 'step', (0, 0)),
    ((DEEDS, ((('a', 0), ('a', 0)),)), 'step', (0, 1)), ((DEEDS, ((('b', 0), ('a', 0)),)), 'step', (0, 1)),
    ((DEEDS, ((('a', 1),),)), 'step', (0, 0)), ((DEEDS, ((('a', 2),), ())), 'step', (0, 0)),
    ((DEEDS, ((('a', -1),),)), 'step', (0, 0)), ((DEEDS, ((('a', True),), ())), 'step', (0, 0)),
    ((DEEDS, ((('a', False),),)), 'step', (0, 0)), ((DEEDS, ((('a', None),),)), 'step', (0, 0)),
    ((DEEDS, ((('a', '0'),),)), 'step', (0, 0)), ((DEEDS, ((('a', 10 ** 59),),)), 'step', (0, 0)),
    ((DEEDS, ((), (('a', 0), ('b', 2)))), 'step', (1, 1)),
    # Two faults: the one that stands first in the list, or at the earlier element.
    (((A, 1), (None,)), 'deed', 1), ((DEEDS, ((('a', 9),), None)), 'step', (0, 0)),
    ((DEEDS, (None, (('a', 9),))), 'state', 0), ((DEEDS, ((('a', 9), ('b', 9)),)), 'step', (0, 0)),
    ((DEEDS, ((('b', 9), ('a', 0)),)), 'step', (0, 0)),
)


class CheckersTest(Case):

    def test_how_many_states(self):
        for machine in (FREE, EITHER, SPLIT, ONEWAY, BOTH, LOOSE, (DEEDS, ((), (), ()))):
            self.same(lets_machine(machine), len(machine[1]))
            self.same(lets_machine(thing=machine), len(machine[1]))
        for book in (FREE, EITHER, BOTH, LOOSE, (DEEDS, ((), ()))):
            self.same(lets_book(book), len(book[1]))
            self.same(lets_book(thing=book), len(book[1]))

    def test_wrong_forms(self):
        for thing, word, at in WRONG:
            for checker in (lets_machine, lets_book):
                before = repr(thing)
                self.bad_paper(word, at, checker, thing)
                self.assertEqual(repr(thing), before)
            self.assertIs(is_machine(thing), False)

    def test_any_value(self):
        for thing in ODD_DEEP:
            if thing != ((), ()):
                self.bad_paper('shape', -1, lets_machine, thing)
                self.bad_paper('shape', -1, lets_book, thing)

    def test_document(self):
        self.same([lets_book(FREE), lets_book(EITHER), lets_machine(SPLIT)], [1, 3, 5])
        self.bad_paper('exchange', (0, 0, 1), lets_book, SPLIT)

    def test_each_way_to_break_an_exchange(self):
        # The other deed is not allowed; the deed is not behind it; both ways lead to unlike states.
        self.bad_paper('exchange', (0, 0, 1), lets_book, (DEEDS, ((('a', 1),), (('b', 1),))))
        self.bad_paper('exchange', (0, 0, 1), lets_book, ONEWAY)
        self.bad_paper('exchange', (0, 0, 1), lets_book, SPLIT)
        self.bad_paper('exchange', (0, 1, 0), lets_book, (DEEDS, ((('b', 1),), (('a', 1),))))
        self.bad_paper('exchange', (0, 1, 0), lets_book, (DEEDS, ((('a', 1), ('b', 2)), (), (('a', 2),))))

    def test_first_state_deed_and_other(self):
        deeds = (('a', ('w',)), ('b', ('x',)), ('c', ('y',)), ('d', ('w', 'z')))
        late = (('b', 1), ('c', 0))
        self.bad_paper('exchange', (1, 1, 2), lets_book, (deeds, ((), (('b', 2),), (('c', 2),))))
        self.bad_paper('exchange', (0, 0, 1), lets_book, (deeds, ((('a', 1),), late)))
        self.bad_paper('exchange', (1, 2, 3), lets_book, (deeds, ((), (('c', 2),), (('d', 2),))))
        self.bad_paper('exchange', (0, 1, 3), lets_book, (deeds, ((('b', 1), ('c', 1)), (('d', 1),))))

    def test_states_that_nothing_leads_to(self):
        self.same(lets_book((DEEDS, ((), (('a', 1), ('b', 1))))), 2)
        self.bad_paper('exchange', (1, 0, 1), lets_book, (DEEDS, ((), (('a', 2),), (('b', 2),))))

    def test_deeds_that_are_not_apart_may_stand_in_any_order(self):
        deeds = (('a', ('x', 'y')), ('b', ('y',)))
        self.same(lets_book((deeds, ((('a', 1),), (('b', 0),)))), 2)
        self.same(lets_book((deeds, SPLIT[1])), 5)

    def test_loops_of_one_deed(self):
        self.same(lets_book((DEEDS, ((('a', 0), ('b', 1)), (('a', 1),)))), 2)
        self.bad_paper('exchange', (0, 0, 1), lets_book, (DEEDS, ((('a', 0), ('b', 1)), (('a', 0),))))

    def test_against_the_words_of_the_document(self):
        books = 0
        for machine in [*some_machines(1, 400, deeds=3, states=2), *some_machines(2, 400, deeds=4, states=3)]:
            self.same(lets_machine(machine), len(machine[1]))
            place = slow_exchange(machine)
            if place is None:
                books += 1
                self.same(lets_book(machine), len(machine[1]))
            else:
                self.bad_paper('exchange', place, lets_book, machine)
            self.assertIs(is_book(machine), place is None)
        self.assertTrue(20 < books < 780)

    def test_books_of_the_dice(self):
        for book in some_books(3, 30, deeds=3, states=3, odds=0.8):
            self.same(lets_book(book), 3)
