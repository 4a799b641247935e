"""Promises [15] and [16], and guarantee (T2)."""

from itertools import product

from toldall.errors import NotClosed
from toldall.kinds import is_book, is_machine
from toldall.merging import book_of, exchange_fault, least_machine, parting_row, reached_machine
from tests.cases import (BOTH, EITHER, FREE, LOOSE, ODD_DEEP, ONEWAY, SPLIT, Case, slow_alike, slow_apart, slow_end,
                         slow_runs, some_books, some_machine, some_machines)

import random


def slow_reached(machine):
    """The states by number, as [15] tells, and the machine of them."""
    order, k = [0], 0
    while k < len(order):
        for _, end in machine[1][order[k]]:
            if end not in order:
                order.append(end)
        k += 1
    return machine[0], tuple(tuple((name, order.index(end)) for name, end in machine[1][s]) for s in order)


def slow_same(machine, s, t, length):
    """Whether the same rows, up to this length, are allowed from both states."""
    names = [deed[0] for deed in machine[0]]
    rows = [row for many in range(length + 1) for row in product(names, repeat=many)]
    return all((slow_end(machine, row, s) is None) == (slow_end(machine, row, t) is None) for row in rows)


def slow_fewest(machine):
    """How many states of the machine are reached and pairwise unlike."""
    kinds = []
    reached = slow_reached(machine)
    for s in range(len(reached[1])):
        if not any(slow_same(reached, s, t, len(reached[1])) for t in kinds):
            kinds.append(s)
    return len(kinds)


def slow_parting(machine, other, length):
    for many in range(length + 1):
        for row in product([deed[0] for deed in machine[0]], repeat=many):
            if (slow_end(machine, row) is None) != (slow_end(other, row) is None):
                return row
    return None


class MergingTest(Case):

    def test_document(self):
        self.same([least_machine(SPLIT)[1], parting_row(SPLIT, EITHER), exchange_fault(EITHER)],
                  [((('a', 1), ('b', 2)), (('b', 3),), (('a', 3),), ()), ('a', 'b'), None])
        self.refused(NotClosed, {'row': ('a', 'b'), 'other': ('b', 'a')}, book_of, ONEWAY)

    def test_numbers_of_reached_states(self):
        deeds = FREE[0]
        states = ((('a', 3), ('n', 1)), (('m', 4),), (('a', 0),), (('m', 1), ('n', 5)), (), (('a', 5), ('n', 3)))
        self.same(reached_machine((deeds, states)),
                  (deeds, ((('a', 1), ('n', 2)), (('m', 2), ('n', 3)), (('m', 4),), (('a', 3), ('n', 1)), ())))
        self.same(reached_machine(LOOSE), (deeds, LOOSE[1][:2]))
        self.same(reached_machine(SPLIT), SPLIT)

    def test_least_machines(self):
        self.same(least_machine(EITHER), (EITHER[0], ((('a', 1), ('b', 1)), ())))
        self.same(least_machine(FREE), FREE)
        self.same(least_machine((FREE[0], FREE[1] * 1 + (((('a', 0)),),))), FREE)
        ring = (EITHER[0], ((('a', 1),), (('a', 2),), (('a', 0),), (('b', 0),)))
        self.same(least_machine(ring), (EITHER[0], ((('a', 0),),)))
        late = (EITHER[0], ((('a', 1), ('b', 2)), (('a', 3),), (('a', 4),), (('a', 5),), (('a', 5),), ()))
        self.same(least_machine(late)[1], ((('a', 1), ('b', 1)), (('a', 2),), (('a', 3),), ()))
        unlike = (EITHER[0], ((('a', 1), ('b', 2)), (('a', 3),), (('a', 4),), (('b', 5),), (('a', 5),), ()))
        self.same(least_machine(unlike), unlike)

    def test_states_are_renumbered_behind_merging(self):
        deeds = (('a', ('x',)), ('b', ('x',)), ('c', ('x',)))
        states = ((('b', 2), ('c', 1)), (('a', 3), ('c', 4)), (('a', 4), ('c', 3)), (('a', 0),), (('a', 0),))
        self.same(least_machine((deeds, states))[1], ((('b', 1), ('c', 1)), (('a', 2), ('c', 2)), (('a', 0),)))

    def test_long_chains(self):
        states = tuple((('a', k + 1),) for k in range(300)) + ((), (('a', 7),))
        self.same(least_machine((EITHER[0], states)), (EITHER[0], states[:-1]))
        self.same(parting_row((EITHER[0], states), (EITHER[0], ((('a', 0),),))), ('a',) * 301)

    def test_against_slow_answers(self):
        for machine in [*some_machines(5, 60, deeds=2, states=4), *some_machines(6, 40, deeds=3, states=3, odds=0.8)]:
            reached, least = reached_machine(machine), least_machine(machine)
            self.same(reached, slow_reached(machine))
            self.same(least, slow_reached(least))
            self.assertTrue(is_machine(least))
            self.assertEqual(len(least[1]), slow_fewest(machine))
            for length in range(5):
                self.assertEqual(slow_runs(least, length), slow_runs(machine, length))
            self.assertIsNone(parting_row(machine, least))
            self.same(least_machine(least), least)
            self.same(least_machine(reached), least)

    def test_parting_rows(self):
        self.same(parting_row(EITHER, SPLIT), ('a', 'b'))
        self.same(parting_row(EITHER, (EITHER[0], ((),))), ('a',))
        self.same(parting_row((EITHER[0], ((),)), (EITHER[0], ((('b', 0),),))), ('b',))
        self.same(parting_row(SPLIT, BOTH), None)
        self.same(parting_row(EITHER, EITHER), None)
        self.same(parting_row(ONEWAY, SPLIT), ('b', 'a'))
        longer = (EITHER[0], ((('a', 1), ('b', 2)), (('a', 2),), (('a', 3),), (('b', 3),)))
        shorter = (EITHER[0], ((('a', 1), ('b', 2)), (('a', 2),), (('a', 3),), ()))
        self.same(parting_row(longer, shorter), ('b', 'a', 'b'))

    def test_parting_rows_are_the_shortest_and_least(self):
        dice = random.Random(8)
        parted = 0
        for _ in range(150):
            one = some_machine(dice, names='ab', deeds=2, states=3, odds=0.8)
            other = (one[0], some_machine(dice, names='ab', deeds=2, states=4, odds=0.8)[1])
            row = parting_row(one, other)
            wanted = slow_parting(one, other, 6)
            if wanted is not None:
                parted += 1
                self.same(row, wanted)
            else:
                self.assertTrue(row is None or len(row) > 6)
            self.assertEqual(row is None, least_machine(one) == least_machine(other))
            self.same(parting_row(other, one), row)
        self.assertTrue(20 < parted < 150)

    def check_fault(self, machine, rows):
        row, other = rows
        self.assertIsInstance(rows, tuple)
        self.assertIsNotNone(slow_end(machine, row))
        self.assertIsNone(slow_end(machine, other))
        self.assertEqual(len(row), len(other))
        places = [k for k in range(len(row)) if row[k] != other[k]]
        self.assertEqual(len(places), 2)
        first, second = places
        self.assertEqual(second, first + 1)
        self.assertEqual((row[first], row[second]), (other[second], other[first]))
        self.assertTrue(slow_apart(machine, row[first], row[second]))

    def test_exchange_faults(self):
        for machine in (FREE, EITHER, SPLIT, BOTH, LOOSE):
            self.same(exchange_fault(machine), None)
        self.same(exchange_fault(ONEWAY), (('a', 'b'), ('b', 'a')))
        deeds = EITHER[0]
        for states in (((('a', 1),), (('b', 0),)), ((('a', 1), ('b', 1)), (('b', 1),)),
                       ((('a', 1), ('b', 2)), (('b', 3),), (('a', 4),), (), (('a', 4),)),
                       ((('a', 1), ('b', 2)), (('b', 3),), (('a', 4),), (('a', 3),), ()),
                       ((('a', 1),), (('a', 2),), (('a', 3), ('b', 3)), (('b', 4),), ())):
            self.check_fault((deeds, states), exchange_fault((deeds, states)))

    def test_exchange_faults_behind_long_rows(self):
        deeds = (('a', ('x',)), ('b', ('y',)), ('c', ('x', 'y')))
        lone = ((('c', 1),), (('c', 2),), (('c', 3),), (('a', 4), ('c', 0)), (('b', 0),))
        self.same(exchange_fault((deeds, lone)), (('c', 'c', 'c', 'a', 'b'), ('c', 'c', 'c', 'b', 'a')))
        unlike = ((('c', 1),), (('c', 2),), (('a', 3), ('b', 4)), (('b', 5),), (('a', 6),), (('c', 0),), (('c', 5),))
        self.check_fault((deeds, unlike), exchange_fault((deeds, unlike)))
        turned = (deeds, unlike[:5] + (unlike[6], unlike[5]))
        self.check_fault(turned, exchange_fault(turned))

    def test_faults_that_are_not_reached_do_not_matter(self):
        machine = (EITHER[0], ((), (('a', 2),), (('b', 2),)))
        self.assertFalse(is_book(machine))
        self.same([exchange_fault(machine), book_of(machine)], [None, (EITHER[0], ((),))])

    def test_exchange_faults_and_books_of_the_dice(self):
        books = 0
        for machine in [*some_machines(9, 200, deeds=2, states=3, odds=0.8), *some_machines(10, 200, states=3)]:
            rows = exchange_fault(machine)
            self.assertEqual(rows is None, is_book(least_machine(machine)))
            if rows is None:
                books += 1
                self.same(book_of(machine), least_machine(machine))
                for run in slow_runs(machine, 4):
                    for row in slow_alike(machine, run):
                        self.assertIsNotNone(slow_end(machine, row))
            else:
                self.check_fault(machine, rows)
                with self.assertRaises(NotClosed) as caught:
                    book_of(machine)
                self.check_fault(machine, (caught.exception.row, caught.exception.other))
        self.assertTrue(40 < books < 360)

    def test_books_stay_closed(self):
        for book in some_books(11, 20, deeds=3, states=3, odds=0.8):
            self.same([exchange_fault(book), book_of(book)], [None, least_machine(book)])
        self.same([book_of(SPLIT), book_of(EITHER)], [BOTH, (EITHER[0], ((('a', 1), ('b', 1)), ()))])

    def test_no_machine(self):
        for odd in (*ODD_DEEP, (FREE[0], ()), (FREE[0], ((('a', True),), ()))):
            for function in (reached_machine, least_machine, exchange_fault, book_of):
                self.unusable('machine', function, odd)
            self.unusable('machine', parting_row, odd, FREE)
            self.unusable('machine', parting_row, odd, odd)
            self.unusable('other', parting_row, FREE, odd)

    def test_other_deeds(self):
        self.unusable('other', parting_row, FREE, EITHER)
        self.unusable('other', parting_row, EITHER, ((('a', ('x',)), ('b', ('x',))), EITHER[1]))
        self.unusable('other', parting_row, EITHER, ((('a', ('x',)), ('c', ('y',))), ((),)))
        self.unusable('other', parting_row, EITHER, (EITHER[0] + (('c', ('y',)),), EITHER[1]))
        self.unusable('other', parting_row, EITHER, (EITHER[0][:1], ((),)))

    def test_arguments_by_name(self):
        self.same([reached_machine(machine=LOOSE), least_machine(machine=SPLIT), book_of(machine=SPLIT),
                   exchange_fault(machine=ONEWAY), parting_row(machine=SPLIT, other=EITHER)],
                  [(LOOSE[0], LOOSE[1][:2]), BOTH, BOTH, (('a', 'b'), ('b', 'a')), ('a', 'b')])
