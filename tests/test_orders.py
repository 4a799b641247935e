"""Promises [29] and [30]: beginnings, common rows, joined rows."""

from itertools import product

from toldall.exchanges import are_alike, own_row
from toldall.orders import common_row, is_beginning, joined_row
from toldall.pasts import past_of
from toldall.runs import is_run
from tests.cases import EITHER, FREE, LOOSE, Case, slow_apart, some_books
from tests.sayings import beginnings, parties_of_book, slow_sets
from tests.test_bookchanges import NO_BOOKS
from tests.test_exchanges import some_rows
from tests.test_runs import FOUR, NO_ROWS, slow_runs

ALL = (is_beginning, common_row, joined_row)


def pairs(seed, most, books=6):
    """Books with pairs of rows; many of the pairs have a beginning in common."""
    found = []
    for book in [FREE, EITHER, LOOSE, *some_books(seed, books, deeds=3, states=2, odds=0.9)]:
        rows = some_rows(seed, book, 24, most)
        found += [(book, one, other) for one, other in zip(rows, rows[1:])]
        found += [(book, one[:k], one[:k // 2] + other[:1]) for k, (one, other) in enumerate(zip(rows[:8], rows[8:]))]
    return found


def slow_joined(book, row, other):
    """The first of all rows, by length and then ascending, of which both are beginnings."""
    names = [deed[0] for deed in book[0]]
    for length in range(len(row) + len(other) + 1):
        for joined in product(names, repeat=length):
            if row in beginnings(book, joined) and other in beginnings(book, joined):
                return joined
    return None


class OrdersTest(Case):

    def test_document(self):
        self.same([is_beginning(FREE, ('n',), ('a', 'n')), common_row(FREE, ('a', 'm'), ('n', 'a')),
                   joined_row(FREE, ('n',), ('a',))], [True, ('a',), ('a', 'n')])

    def test_beginnings_against_all_rows(self):
        told = {True: 0, False: 0}
        for book, row, other in pairs(91, 5):
            for one, two in ((row, other), (other, row), (row, row), ((), other), (row, ()), (row[:2], row)):
                wanted = one in beginnings(book, two)
                told[wanted] += 1
                self.same(is_beginning(book, one, two), wanted)
        self.assertTrue(min(told.values()) > 100, told)

    def test_common_rows_against_all_rows(self):
        lengths = {}
        for book, row, other in pairs(92, 6):
            both = beginnings(book, row) & beginnings(book, other)
            most = max(len(each) for each in both)
            wanted = min(each for each in both if len(each) == most)
            lengths[most] = lengths.get(most, 0) + 1
            self.same([common_row(book, row, other), common_row(book, other, row)], [wanted, wanted])
            self.same(common_row(book, row, ()), ())
        self.assertTrue(lengths[0] > 20 and lengths[1] > 20 and lengths[2] > 20, lengths)

    def test_joined_rows_against_all_rows(self):
        told = {True: 0, False: 0}
        for book, row, other in pairs(93, 3, books=5):
            wanted = slow_joined(book, row, other)
            told[wanted is None] += 1
            self.same([joined_row(book, row, other), joined_row(book, other, row)], [wanted, wanted])
        self.assertTrue(min(told.values()) > 30, told)

    def test_rows_that_share_a_beginning_up_to_exchanges(self):
        # The beginning a, n, m of both stands in other orders; behind it n is left of one, a of the other.
        row, other = ('n', 'a', 'm', 'n'), ('a', 'n', 'm', 'a')
        self.same([common_row(FREE, row, other), joined_row(FREE, row, other)],
                  [('a', 'n', 'm'), ('a', 'n', 'm', 'a', 'n')])
        self.same([is_beginning(FREE, ('n', 'a', 'm'), other), is_beginning(FREE, row, other)], [True, False])
        # What is left of them, m and n, is not apart.
        self.same([common_row(FREE, ('n', 'a', 'm'), ('a', 'n', 'n')), joined_row(FREE, ('n', 'a', 'm'), ('a', 'n', 'n'))],
                  [('a', 'n'), None])
        self.same([joined_row(FREE, ('m',), ('a',)), joined_row(FREE, ('m', 'a'), ('m',)), joined_row(FREE, (), ())],
                  [None, ('m', 'a'), ()])
        self.same([common_row(FOUR, ('d', 'b', 'a'), ('a', 'c', 'd')), joined_row(FOUR, ('d', 'b'), ('c', 'a', 'd'))],
                  [('a', 'd'), ('a', 'b', 'c', 'd')])
        self.same([common_row(EITHER, ('b', 'a', 'a'), ('a', 'b', 'b')), joined_row(EITHER, ('b', 'b'), ('a',))],
                  [('a', 'b'), ('a', 'b', 'b')])

    def test_rows_of_twelve_deeds(self):
        row, other = ('n', 'a') * 6, ('a',) * 6 + ('n',) * 6
        self.same([is_beginning(FREE, row, other), common_row(FREE, row, other), joined_row(FREE, row, other)],
                  [True, other, other])

    def test_consequences(self):
        for book, row, other in pairs(94, 4):
            parties = parties_of_book(book)
            own = [own_row(book, other, each)[:len(own_row(book, row, each))] == own_row(book, row, each)
                   for each in parties]
            self.same(is_beginning(book, row, other), all(own))
            both = is_beginning(book, row, other) and is_beginning(book, other, row)
            self.same(both, are_alike(book, row, other))
            common, joined = common_row(book, row, other), joined_row(book, row, other)
            for each in beginnings(book, row) & beginnings(book, other):
                self.assertTrue(is_beginning(book, each, common))
            left, rest = list(row), list(other)
            for name in common:
                left.remove(name)
                rest.remove(name)
            self.same(joined is None, any(not slow_apart(book, i, j) for i in left for j in rest))
            if joined is not None:
                self.assertTrue(is_beginning(book, row, joined) and is_beginning(book, other, joined))
                for each in ((*joined, book[0][0][0]), (*row, *other), (*other, *row)):
                    if is_beginning(book, row, each) and is_beginning(book, other, each):
                        self.assertTrue(is_beginning(book, joined, each))

    def test_consequences_for_runs_and_pasts(self):
        for book in (FREE, EITHER, LOOSE):
            for run in slow_runs(book, 3):
                for each in beginnings(book, run):
                    self.assertTrue(is_run(book, each))
                for parties in slow_sets(book):
                    past = past_of(book, run, parties)
                    self.assertTrue(is_beginning(book, past, run))
                    joined = ()
                    for party in parties:
                        joined = joined_row(book, joined, past_of(book, run, (party,)))
                    self.assertTrue(are_alike(book, joined, past))

    def test_first_parameter_that_cannot_be_used(self):
        for function in ALL:
            for odd in NO_BOOKS:
                self.unusable('book', function, odd, (), ())
                self.unusable('book', function, odd, odd, None)
            for odd in (*NO_ROWS, ('a', 'b')):
                if odd != () or isinstance(odd, list):
                    self.unusable('row', function, FREE, odd, ())
                    self.unusable('row', function, FREE, odd, odd)
                    self.unusable('other', function, FREE, ('a', 'n'), odd)

    def test_arguments_by_name(self):
        given = {'other': ('a', 'n'), 'row': ('n',), 'book': FREE}
        self.same([is_beginning(**given), common_row(**given), joined_row(**given)], [True, ('n',), ('a', 'n')])
        self.same(is_beginning(row=('a', 'n'), other=('n',), book=FREE), False)
