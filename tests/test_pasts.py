"""Promises [27] and [28]: pasts and rests."""

from itertools import combinations

from toldall.exchanges import are_alike, rounds_of
from toldall.pasts import looks_alike, past_indexes, past_of, rest_of
from tests.cases import EITHER, FREE, LOOSE, ODD_DEEP, Case, slow_alike, slow_apart, some_books
from tests.test_bookchanges import NO_BOOKS
from tests.test_exchanges import cases, some_rows
from tests.test_runs import NO_ROWS

MAN = ('m', 'a', 'n')
NO_PARTIES = (*ODD_DEEP, ('w',), ('x', 'zz'), ('a',), ('y', 'x'), ('x', 'x'), ['x'], 'x', ('x', ['y']), ('x', 1))


def party_sets(book):
    parties = sorted({party for deed in book[0] for party in deed[1]})
    return [each for size in range(1, len(parties) + 1) for each in combinations(parties, size)]


def slow_past(book, row, parties):
    """The indexes of the deeds from which a chain leads to one of the parties, by following the chains on."""
    own = dict(book[0])
    found = []
    for k in range(len(row)):
        met, waiting = set(), [k]
        while waiting:
            i = waiting.pop()
            met.add(i)
            waiting += [j for j in range(i + 1, len(row)) if j not in met and not slow_apart(book, row[i], row[j])]
        if any(party in own[row[i]] for i in met for party in parties):
            found.append(k)
    return tuple(found)


class PastsTest(Case):

    def test_document(self):
        self.same([past_of(FREE, MAN, ('z',)), past_indexes(FREE, MAN, ('z',)), rest_of(FREE, MAN, ('z',)),
                   past_of(FREE, MAN, ('x', 'z'))], [('m', 'n'), (0, 2), ('a',), ('m', 'a', 'n')])
        self.same([looks_alike(FREE, ('z',), MAN, ('m', 'n')), looks_alike(FREE, ('y',), MAN, ('m',))], [True, False])
        self.same([past_of(FREE, ('a', 'm', 'n'), ('z',)), past_of(FREE, ('m', 'a', 'n'), ('z',)),
                   looks_alike(FREE, ('z',), ('m', 'a', 'n'), ('m', 'n'))], [('a', 'm', 'n'), ('m', 'n'), True])

    def test_pasts(self):
        self.same([past_of(FREE, (), ('x',)), past_indexes(FREE, (), ('x',)), rest_of(FREE, (), ('x',))], [(), (), ()])
        self.same([past_of(FREE, ('a', 'a'), ('y', 'z')), rest_of(FREE, ('a', 'a'), ('y', 'z'))], [(), ('a', 'a')])
        self.same([past_indexes(FREE, ('n', 'm', 'a', 'm'), ('y',)), past_indexes(FREE, ('n', 'm', 'a', 'n'), ('z',)),
                   past_indexes(FREE, ('a', 'm', 'n', 'a', 'm'), ('z',))], [(0, 1, 2, 3), (0, 1, 3), (0, 1, 2)])
        self.same([past_of(EITHER, ('a', 'b'), ('y',)), rest_of(EITHER, ('a', 'b'), ('y',))], [('b',), ('a',)])

    def test_against_the_words_of_the_document(self):
        for book, row in cases(71, most=8):
            for parties in party_sets(book):
                indexes = slow_past(book, row, parties)
                self.same(past_indexes(book, row, parties), indexes)
                self.same(past_of(book, row, parties), tuple(row[k] for k in indexes))
                self.same(rest_of(book, row, parties), tuple(row[k] for k in range(len(row)) if k not in indexes))

    def test_consequences(self):
        for book, row in cases(72, most=6):
            for parties in party_sets(book):
                past, rest = past_of(book, row, parties), rest_of(book, row, parties)
                self.same([are_alike(book, row, past + rest), past_of(book, past, parties),
                           past_of(book, rest, parties)], [True, past, ()])
                for other in slow_alike(book, row)[:6]:
                    self.same([looks_alike(book, parties, row, other),
                               are_alike(book, past, past_of(book, other, parties)),
                               are_alike(book, rest, rest_of(book, other, parties)),
                               rounds_of(book, other)], [True, True, True, rounds_of(book, row)])

    def test_what_looks_alike(self):
        told = {True: 0, False: 0}
        for book, row in cases(73, most=4):
            for other in some_rows(74, book, 8, 4):
                for parties in party_sets(book):
                    alike = past_of(book, other, parties) in slow_alike(book, past_of(book, row, parties))
                    self.same(looks_alike(book, parties, row, other), alike)
                    each = [looks_alike(book, (party,), row, other) for party in parties]
                    self.same(alike, all(each))
                    told[alike] += 1
        self.assertTrue(min(told.values()) > 200)

    def test_long_rows(self):
        row = ('n',) + ('a',) * 38 + ('m',)
        self.same([past_indexes(FREE, row, ('z',)), past_indexes(FREE, row, ('y',))], [(0,), tuple(range(40))])
        self.same(looks_alike(FREE, ('z',), row, ('n', 'a')), True)

    def test_books_of_the_dice_have_runs_for_pasts(self):
        for book in some_books(75, 10, deeds=3, states=3, odds=0.8):
            for row in some_rows(76, book, 6, 6):
                everybody = party_sets(book)[-1]
                self.same([past_of(book, row, everybody), rest_of(book, row, everybody)], [row, ()])

    def test_first_parameter_that_cannot_be_used(self):
        for odd in NO_BOOKS:
            for function in (past_indexes, past_of, rest_of):
                self.unusable('book', function, odd, None, None)
                self.unusable('book', function, odd, (), ('x',))
            self.unusable('book', looks_alike, odd, None, None, None)
            self.unusable('book', looks_alike, odd, ('x',), (), ())
        for odd in NO_ROWS:
            if odd != () or isinstance(odd, list):
                for function in (past_indexes, past_of, rest_of):
                    self.unusable('row', function, FREE, odd, ('x',))
                    self.unusable('row', function, FREE, odd, None)
                self.unusable('row', looks_alike, FREE, ('x',), odd, ())
                self.unusable('row', looks_alike, FREE, ('x',), odd, odd)
                self.unusable('other', looks_alike, FREE, ('x',), ('a',), odd)
        for odd in NO_PARTIES:
            for function in (past_indexes, past_of, rest_of):
                self.unusable('parties', function, FREE, ('a',), odd)
            self.unusable('parties', looks_alike, FREE, odd, (), ())
            self.unusable('parties', looks_alike, FREE, odd, None, None)

    def test_arguments_by_name(self):
        self.same([past_indexes(book=FREE, row=MAN, parties=('z',)), past_of(book=FREE, row=MAN, parties=('z',)),
                   rest_of(book=LOOSE, row=MAN, parties=('z',)),
                   looks_alike(book=FREE, parties=('z',), row=MAN, other=('m', 'n'))],
                  [(0, 2), ('m', 'n'), ('a',), True])
