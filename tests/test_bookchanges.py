"""Promises [17] and [18]: books that are made of books; (T8) as far as it speaks of runs."""

from toldall.bookchanges import (beside_books, both_books, renamed_deed, renamed_party, with_listener, without_deed)
from toldall.bookchecker import lets_book
from toldall.merging import parting_row
from tests.cases import (BOTH, EITHER, FREE, LOOSE, ODD_DEEP, ONEWAY, SPLIT, Case, slow_alike, slow_runs, some_books)

OTHER = ((('n', ('p', 'q')), ('o', ('q',))), ((('n', 1), ('o', 0)), (('o', 1),)))
NO_BOOKS = (*ODD_DEEP, SPLIT, ONEWAY, (FREE[0], ()), (FREE[0], ((('a', True),), ())), [FREE[0], FREE[1]])


def slow_pairs(deeds, ends):
    """The book of the pairs of states, by a dict of where each pair leads, numbered as in [15]."""
    order, k = [(0, 0)], 0
    while k < len(order):
        for name, _ in deeds:
            pair = ends(order[k], name)
            if pair is not None and pair not in order:
                order.append(pair)
        k += 1
    rows = []
    for pair in order:
        steps = [(name, ends(pair, name)) for name, _ in deeds]
        rows.append(tuple((name, order.index(end)) for name, end in steps if end is not None))
    return deeds, tuple(rows)


def slow_beside(book, other):
    names = [name for name, _ in book[0]]

    def ends(pair, name):
        if name in names:
            end = dict(book[1][pair[0]]).get(name)
            return None if end is None else (end, pair[1])
        end = dict(other[1][pair[1]]).get(name)
        return None if end is None else (pair[0], end)

    return slow_pairs(tuple(sorted(book[0] + other[0])), ends)


def slow_both(book, other):

    def ends(pair, name):
        both = dict(book[1][pair[0]]).get(name), dict(other[1][pair[1]]).get(name)
        return None if None in both else both

    return slow_pairs(book[0], ends)


class ChangesTest(Case):

    def test_document(self):
        self.same([with_listener(FREE, 'a', 'z')[0][0], both_books(EITHER, (EITHER[0], ((('a', 0),),)))[1]],
                  [('a', ('x', 'z')), ((('a', 1),), ())])
        self.same(renamed_deed(EITHER, 'a', 'c'),
                  ((('b', ('y',)), ('c', ('x',))), ((('b', 2), ('c', 1)), (), ())))

    def test_listeners(self):
        a, m, n = FREE[0]
        self.same(with_listener(FREE, 'a', 'y'), ((('a', ('x', 'y')), m, n), FREE[1]))
        self.same(with_listener(FREE, 'n', 'x'), ((a, m, ('n', ('x', 'y', 'z'))), FREE[1]))
        self.same(with_listener(FREE, 'm', 'z'), ((a, ('m', ('x', 'y', 'z')), n), FREE[1]))
        self.same(with_listener(LOOSE, 'm', 'z'), ((a, ('m', ('x', 'y', 'z')), n), LOOSE[1]))
        self.same(with_listener(book=EITHER, deed='b', party='x'), ((EITHER[0][0], ('b', ('x', 'y'))), EITHER[1]))

    def test_a_listener_changes_no_run_and_leaves_fewer_alike(self):
        for book in some_books(21, 20, deeds=3, states=3, odds=0.8):
            for name, own in book[0]:
                for party in {each for deed in book[0] for each in deed[1]} - set(own):
                    heard = with_listener(book, name, party)
                    lets_book(heard)
                    self.same(heard[1], book[1])
                    self.same(dict(heard[0]), {**dict(book[0]), name: tuple(sorted(own + (party,)))})
                    for run in slow_runs(book, 3):
                        self.assertLessEqual(set(slow_alike(heard, run)), set(slow_alike(book, run)))

    def test_wrong_listeners(self):
        for odd in (*ODD_DEEP, 'x', 'w', 'a', 'xy', ['z'], ('z',)):
            self.unusable('party', with_listener, FREE, 'a', odd)
        self.unusable('party', with_listener, FREE, 'm', 'x')
        self.unusable('party', with_listener, FREE, 'm', 'y')
        self.unusable('party', with_listener, EITHER, 'a', 'z')

    def test_without_a_deed(self):
        a, m, n = FREE[0]
        self.same(without_deed(FREE, 'm'), ((a, n), ((('a', 0), ('n', 0)),)))
        self.same(without_deed(LOOSE, 'a'), ((m, n), ((('n', 0),), (('m', 0), ('n', 1)), ())))
        self.same(without_deed(LOOSE, 'n'), ((a, m), ((('a', 1),), (('m', 0),), (('a', 2),))))
        self.same(without_deed(book=EITHER, deed='a'), (EITHER[0][1:], ((('b', 2),), (), ())))
        self.unusable('deed', without_deed, (EITHER[0][:1], ((),)), 'a')
        self.unusable('deed', without_deed, without_deed(EITHER, 'a'), 'b')

    def test_deeds_of_other_names(self):
        a, m, n = FREE[0]
        self.same(renamed_deed(FREE, 'a', 'z'), ((m, n, ('z', ('x',))), ((('m', 0), ('n', 0), ('z', 0)),)))
        self.same(renamed_deed(FREE, 'n', 'ab'), ((a, ('ab', ('y', 'z')), m), ((('a', 0), ('ab', 0), ('m', 0)),)))
        self.same(renamed_deed(LOOSE, 'n', 'b'),
                  ((a, ('b', ('y', 'z')), m), ((('a', 1), ('b', 0)), (('b', 1), ('m', 0)), (('a', 2),))))
        self.same(renamed_deed(LOOSE, 'm', 'm'), LOOSE)
        self.same(renamed_deed(FREE, 'a', 'x')[0], (m, n, ('x', ('x',))))
        self.same(renamed_deed(book=EITHER, deed='b', name='a' * 8)[0], (EITHER[0][0], ('a' * 8, ('y',))))

    def test_parties_of_other_names(self):
        self.same(renamed_party(FREE, 'x', 'zz'), ((('a', ('zz',)), ('m', ('y', 'zz')), ('n', ('y', 'z'))), FREE[1]))
        self.same(renamed_party(FREE, 'z', 'w'), ((('a', ('x',)), ('m', ('x', 'y')), ('n', ('w', 'y'))), FREE[1]))
        self.same(renamed_party(FREE, 'y', 'y'), FREE)
        self.same(renamed_party(FREE, 'y', 'a'), ((('a', ('x',)), ('m', ('a', 'x')), ('n', ('a', 'z'))), FREE[1]))
        self.same(renamed_party(book=EITHER, party='y', name='b'), ((('a', ('x',)), ('b', ('b',))), EITHER[1]))

    def test_names_that_cannot_be_used(self):
        for odd in ODD_DEEP:
            self.unusable('name', renamed_deed, FREE, 'a', odd)
            self.unusable('name', renamed_party, FREE, 'x', odd)
        for name in ('m', 'n', 'A', ''):
            self.unusable('name', renamed_deed, FREE, 'a', name)
        for name in ('y', 'z', 'A', ''):
            self.unusable('name', renamed_party, FREE, 'x', name)
        self.same(renamed_party(FREE, 'x', 'm')[0][0], ('a', ('m',)))

    def test_first_parameter_that_cannot_be_used(self):
        for odd in NO_BOOKS:
            for function in (with_listener, renamed_deed, renamed_party):
                self.unusable('book', function, odd, None, None)
                self.unusable('book', function, odd, odd, odd)
            for function in (without_deed, beside_books, both_books):
                self.unusable('book', function, odd, None)
                self.unusable('book', function, odd, odd)
        for odd in (*ODD_DEEP, 'b', 'x', ['a'], ('a',)):
            self.unusable('deed', with_listener, FREE, odd, None)
            self.unusable('deed', with_listener, FREE, odd, 'z')
            self.unusable('deed', without_deed, FREE, odd)
            self.unusable('deed', renamed_deed, FREE, odd, None)
            self.unusable('deed', renamed_deed, FREE, odd, 'c')
        for odd in (*ODD_DEEP, 'a', 'w', ['x'], ('x',)):
            self.unusable('party', renamed_party, FREE, odd, None)
            self.unusable('party', renamed_party, FREE, odd, 'c')

    def test_changed_books_are_books(self):
        for book in some_books(22, 15, deeds=3, states=3, odds=0.8):
            names = [deed[0] for deed in book[0]]
            for name in names:
                lets_book(without_deed(book, name))
                turned = renamed_deed(book, name, 'cc')
                lets_book(turned)
                rows = [tuple('cc' if each == name else each for each in row) for row in slow_runs(book, 3)]
                self.same(slow_runs(turned, 3), sorted(rows))
                kept = [row for row in slow_runs(book, 3) if name not in row]
                self.same(slow_runs(without_deed(book, name), 3), kept)

    def test_books_beside_each_other(self):
        self.same(beside_books(EITHER, OTHER), slow_beside(EITHER, OTHER))
        self.same(beside_books(book=EITHER, other=OTHER), (
            EITHER[0] + OTHER[0],
            ((('a', 1), ('b', 2), ('n', 3), ('o', 0)), (('n', 4), ('o', 1)), (('n', 5), ('o', 2)),
             (('a', 4), ('b', 5), ('o', 3)), (('o', 4),), (('o', 5),))))
        self.same(beside_books(OTHER, EITHER), slow_beside(OTHER, EITHER))
        between = ((('aa', ('p',)), ('c', ('q',))), ((('aa', 0), ('c', 0)), ()))
        self.same(beside_books(EITHER, between)[0],
                  (('a', ('x',)), ('aa', ('p',)), ('b', ('y',)), ('c', ('q',))))
        self.same(beside_books(EITHER, between), slow_beside(EITHER, between))

    def test_books_that_cannot_stand_beside(self):
        for odd in NO_BOOKS:
            self.unusable('other', beside_books, FREE, odd)
            self.unusable('other', both_books, FREE, odd)
        self.unusable('other', beside_books, EITHER, EITHER)
        self.unusable('other', beside_books, FREE, OTHER)
        self.unusable('other', beside_books, EITHER, ((('b', ('z',)),), ((),)))
        self.unusable('other', beside_books, EITHER, ((('c', ('y', 'z')),), ((),)))
        self.unusable('other', beside_books, EITHER, ((('c', ('w', 'x')),), ((),)))
        # The name of a deed may be that of a party of the other book.
        self.same(beside_books(EITHER, ((('x', ('a',)),), ((),)))[0], EITHER[0] + (('x', ('a',)),))

    def test_both(self):
        self.same(both_books(EITHER, BOTH), (EITHER[0], ((('a', 1), ('b', 2)), (), ())))
        self.same(both_books(BOTH, EITHER), (EITHER[0], ((('a', 1), ('b', 2)), (), ())))
        self.same(both_books(FREE, LOOSE), (FREE[0], LOOSE[1][:2]))
        self.same(both_books(book=LOOSE, other=LOOSE), (FREE[0], LOOSE[1][:2]))
        self.unusable('other', both_books, FREE, EITHER)
        self.unusable('other', both_books, EITHER, ((('a', ('x',)), ('b', ('x', 'y'))), ((),)))
        self.unusable('other', both_books, EITHER, (EITHER[0][:1], ((),)))

    def test_pairs_of_books_of_the_dice(self):
        books = some_books(23, 16, deeds=3, states=3, odds=0.8)
        for book in books:
            far = (tuple(('z' + name, tuple('z' + each for each in own)) for name, own in book[0]),
                   tuple(tuple(('z' + name, end) for name, end in state) for state in book[1]))
            lets_book(far)
            self.same(beside_books(book, far), slow_beside(book, far))
            self.same(beside_books(far, book), slow_beside(far, book))
            lets_book(beside_books(book, far))
        for book in books:
            for name in [deed[0] for deed in book[0]]:
                less = (book[0], without_deed(book, name)[1])
                lets_book(less)
                self.same(both_books(book, less), slow_both(book, less))
                self.same(both_books(less, book), slow_both(less, book))
                self.assertIsNone(parting_row(both_books(book, less), less))
