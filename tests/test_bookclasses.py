"""Promises [21] and [22]: Book, Listened, Merged."""

from toldall.bookchanges import beside_books, both_books, with_listener, without_deed
from toldall.bookclasses import Book, Listened, Merged
from toldall.booktexts import machine_text
from toldall.errors import InvalidPaper, InvalidText, NotClosed, NotUsable
from toldall.merging import least_machine, parting_row
from tests.cases import (BOTH, EITHER, FREE, LOOSE, ODD_DEEP, ONEWAY, SPLIT, Case, slow_end, some_books, some_machines)
from tests.test_checkers import WRONG

FAR = ((('n', ('p', 'q')), ('o', ('q',))), ((('n', 1), ('o', 0)), (('o', 1),)))


def three():
    """One object of each class; their forms differ."""
    return Book(*FREE), Listened(EITHER, ('a', 'y')), Merged(*SPLIT)


class Sub(Book):
    """A class that somebody derives."""


class BookTest(Case):

    def test_document(self):
        book = Book(FREE[0], FREE[1])
        self.same([book['m'], ('a', 'm') in book, len(book), (book - 'n').parties, str(Book.free(('b', ('y',))))],
                  [('x', 'y'), True, 1, ('x', 'y'), 'deed b y\nstate b:0'])
        self.same([Merged(SPLIT[0], SPLIT[1])(('b', 'a')), Listened(FREE, ('a', 'z'), ('a', 'y'))['a']],
                  [3, ('x', 'y', 'z')])

    def test_properties(self):
        for form in (FREE, EITHER, BOTH, LOOSE):
            book = Book(deeds=form[0], states=form[1])
            self.same([book.deeds, book.states, book.form], [form[0], form[1], form])
            self.same(book.parties, tuple(sorted({party for deed in form[0] for party in deed[1]})))
            self.same([len(book), list(book), str(book)],
                      [len(form[1]), [deed[0] for deed in form[0]], machine_text(form)])
            self.same([name for name in book], [deed[0] for deed in form[0]])
            self.assertTrue(book)

    def test_errors_of_lets_book(self):
        for form in (SPLIT, ONEWAY):
            self.bad_paper('exchange', (0, 0, 1), Book, form[0], form[1])
        tried = 0
        for thing, word, at in WRONG:
            if isinstance(thing, tuple) and len(thing) == 2:
                tried += 1
                self.bad_paper(word, at, Book, thing[0], thing[1])
                self.bad_paper(word, at, Merged, *thing)
        self.assertTrue(tried > 40)
        for odd in (*ODD_DEEP, Book(*FREE)):
            if odd not in (('x', 'x'), ('y', 'x'), ('', ''), ('%', 'x'), ('not',), (1, 2, 3), ((),), ([],)):
                with self.assertRaises(InvalidPaper):
                    Book(odd, FREE[1])
            self.bad_paper('shape', -1, Book, Book(*FREE), odd)
        self.bad_paper('deed', 0, Book, (Book(*FREE),), ((),))
        self.bad_paper('state', 0, Book, FREE[0], (Book(*FREE),))
        self.bad_paper('step', (0, 0), Book, FREE[0], ((('a', Book(*FREE)),),))

    def test_items(self):
        for book in three():
            for name, own in book.form[0]:
                self.same(book[name], own)
            for odd in (*ODD_DEEP, 'x', 'zz', ('a',), ['a'], book, Book(*FREE)):
                self.unusable('deed', lambda: book[odd])

    def test_runs_in_a_book(self):
        book = Book(*EITHER)
        for run in ((), ('a',), ('b',)):
            self.same([run in book, book(run), book(row=run)], [True, slow_end(EITHER, run), slow_end(EITHER, run)])
        for odd in (*ODD_DEEP, ('a', 'b'), ('b', 'a'), ('a', 'a'), ('c',), ['a'], 'a', ('a', 1), (['a'],), (book,), book):
            if odd != () or isinstance(odd, list):
                self.same(odd in book, False)
                self.unusable('row', book, odd)
        self.same([('a', 'b') in Merged(*SPLIT), Merged(*SPLIT)(('a', 'b')), ('x',) in Book(*FREE)], [True, 3, False])

    def test_equal_books(self):
        self.same([Book(*FREE) == Book(*FREE), Book(*FREE) == Sub(*FREE), Sub(*FREE) == Book(*FREE)], [True] * 3)
        heard = Listened(EITHER, ('a', 'y'))
        self.same([heard == Book(*with_listener(EITHER, 'a', 'y')), heard == Merged(*SPLIT)], [True, False])
        self.same([Merged(*SPLIT) == Book(*BOTH), Book(*BOTH) == Merged(*SPLIT), Merged(*BOTH) == Merged(*SPLIT),
                   Listened(BOTH) == Merged(*SPLIT)], [True] * 4)
        self.same([Book(*EITHER) == Merged(*EITHER), Book(*EITHER) != Merged(*EITHER)], [False, True])
        for odd in (*ODD_DEEP, FREE, FREE[0], FREE[1], machine_text(FREE), list(FREE)):
            self.same([Book(*FREE) == odd, odd == Book(*FREE), Book(*FREE) != odd], [False, False, True])
        self.same([Book(*FREE) == Book(*EITHER), Book(EITHER[0], EITHER[1]) == Book(EITHER[0], ((),))], [False, False])

    def check_book(self, got, form):
        self.assertIs(got.__class__, Book)
        self.same([got.form, list(got), got.parties], [form, list(Book(*form)), Book(*form).parties])

    def test_what_signs_return(self):
        far = (Book(*FAR), Sub(*FAR), Listened(FAR, ('o', 'p')), Merged(*FAR))
        near = (Book(*EITHER), Sub(*EITHER), Listened(EITHER), Listened(EITHER, ('a', 'y')), Merged(*SPLIT))
        for book in near:
            for other in far:
                self.check_book(book + other, beside_books(book.form, other.form))
                self.check_book(other + book, beside_books(other.form, book.form))
            for other in near:
                if other.form[0] == book.form[0]:
                    self.check_book(book & other, both_books(book.form, other.form))
                else:
                    self.unusable('other', lambda: book & other)
                self.unusable('other', lambda: book + other)
            self.check_book(book - 'a', without_deed(book.form, 'a'))
            self.unusable('deed', lambda: book - 'c')
            self.unusable('deed', lambda: (book - 'a') - 'b')

    def test_what_signs_refuse(self):
        for book in three():
            for odd in (*ODD_DEEP, FREE, FAR, list(FAR), 'n', 'a', Book):
                self.unusable('other', lambda: book + odd)
                self.unusable('other', lambda: book & odd)
            for odd in (*ODD_DEEP, 'x', ['a'], ('a',), book, Book(*FREE)):
                self.unusable('deed', lambda: book - odd)
        self.unusable('other', lambda: Book(*FREE) & Book(*EITHER))
        self.unusable('other', lambda: Book(*FREE) + Book(*FAR))

    def test_books_never_change(self):
        for book in (*three(), Sub(*FREE)):
            form, before = book.form, str(book)
            listed = ('deeds', 'states', 'parties', 'form', 'whole')
            for name in listed[:5 if isinstance(book, (Listened, Merged)) else 4]:
                with self.assertRaises(AttributeError):
                    setattr(book, name, ())
            with self.assertRaises(TypeError):
                book['a'] = ('x',)
            first = list(book)[0]
            kept = book
            if len(book.deeds) > 1:
                book -= first
            self.assertIsNot(book, kept)
            self.same([kept.form, str(kept)], [form, before])
            for refused in (lambda: kept + 1, lambda: kept & None, lambda: kept['none'], lambda: kept('a')):
                with self.assertRaises(NotUsable):
                    refused()
            self.same([kept.form, str(kept)], [form, before])

    def test_parsed(self):
        for form in (FREE, EITHER, BOTH, LOOSE):
            self.check_book(Book.parsed(machine_text(form)), form)
            self.check_book(Book.parsed(text=machine_text(form)), form)
        self.refused(InvalidText, {'line': 1, 'field': 1}, Book.parsed, 'deed m x\nstate m:1')
        self.refused(InvalidText, {'line': 0, 'field': 0}, Book.parsed, '')
        self.bad_paper('exchange', (0, 0, 1), Book.parsed, machine_text(SPLIT))
        for odd in (*ODD_DEEP, Book(*FREE)):
            if not isinstance(odd, str):
                self.unusable('text', Book.parsed, odd)

    def test_free(self):
        a, m, n = FREE[0]
        for deeds in ((a, m, n), (n, m, a), (m, a, n)):
            self.check_book(Book.free(*deeds), FREE)
        self.check_book(Book.free(a), ((a,), ((('a', 0),),)))
        self.unusable('deeds', Book.free)
        for odd in (*ODD_DEEP, Book(*FREE), FREE[0], ['a', ('x',)]):
            self.refused(NotUsable, {'word': 'deeds', 'at': 0}, Book.free, odd)
            self.refused(NotUsable, {'word': 'deeds', 'at': 1}, Book.free, n, odd, n)
        self.refused(NotUsable, {'word': 'deeds', 'at': 2}, Book.free, n, a, n, None)
        self.refused(NotUsable, {'word': 'deeds', 'at': 1}, Book.free, a, ('a', ('y',)), a)


class ListenedTest(Case):

    def test_forms(self):
        self.same(Listened(FREE).form, FREE)
        heard = Listened(FREE, ('a', 'z'), ('n', 'x'), ('a', 'y'))
        wanted = with_listener(with_listener(with_listener(FREE, 'a', 'z'), 'n', 'x'), 'a', 'y')
        self.same([heard.form, heard.whole, heard.deeds, heard.states, heard.parties, list(heard), len(heard)],
                  [wanted, FREE, wanted[0], wanted[1], ('x', 'y', 'z'), ['a', 'm', 'n'], 1])
        self.same(Listened(book=EITHER).whole, EITHER)
        self.assertIsInstance(heard, Book)
        self.same([heard(('n', 'a')), ('n', 'a') in heard, str(heard)], [0, True, machine_text(wanted)])

    def test_no_book(self):
        for odd in (*ODD_DEEP, SPLIT, (FREE[0], ()), Book(*FREE), Listened(FREE), (Book(*FREE), FREE[1])):
            self.unusable('book', Listened, odd)
            self.unusable('book', Listened, odd, ('a', 'z'))
            self.unusable('book', Listened, odd, None)

    def test_first_pair_that_is_refused(self):
        good = ('a', 'z')
        wrong = (*ODD_DEEP, Book(*FREE), ['a', 'z'], ('a',), ('a', 'z', 'y'), ('b', 'z'), ('a', 'w'), ('m', 'x'), (1, 'z'),
                 ('a', ['z']), (['a'], 'z'), ('a', None), ('a', Book(*FREE)), (Book(*FREE), 'z'), ('a', ('z',)), 'az')
        for odd in wrong:
            self.refused(NotUsable, {'word': 'pairs', 'at': 0}, Listened, FREE, odd)
            self.refused(NotUsable, {'word': 'pairs', 'at': 1}, Listened, FREE, good, odd)
            self.refused(NotUsable, {'word': 'pairs', 'at': 0}, Listened, FREE, odd, None, good)
        self.refused(NotUsable, {'word': 'pairs', 'at': 2}, Listened, FREE, good, ('a', 'y'), good, None)


class MergedTest(Case):

    def test_forms(self):
        merged = Merged(deeds=SPLIT[0], states=SPLIT[1])
        self.same([merged.form, merged.whole, merged.deeds, merged.states, len(merged), list(merged), merged.parties],
                  [BOTH, SPLIT, BOTH[0], BOTH[1], 4, ['a', 'b'], ('x', 'y')])
        self.assertIsInstance(merged, Book)
        self.same(str(merged), machine_text(BOTH))
        self.same(Merged(*EITHER).form, (EITHER[0], ((('a', 1), ('b', 1)), ())))

    def test_errors(self):
        for odd in ODD_DEEP:
            self.bad_paper('shape', -1, Merged, FREE[0], None)
            with self.assertRaises(InvalidPaper):
                Merged(odd, FREE[1])
        self.bad_paper('shape', -1, Merged, Book(*FREE), FREE[1])
        self.refused(NotClosed, {'row': ('a', 'b'), 'other': ('b', 'a')}, Merged, *ONEWAY)

    def test_equal_exactly_if_no_row_parts_them(self):
        machines = [(EITHER[0], found[1]) for found in some_machines(41, 25, names='ab', deeds=2, states=2)]
        for one in machines:
            for other in machines:
                self.assertEqual(least_machine(one) == least_machine(other), parting_row(one, other) is None)
        for book in some_books(42, 10, states=3, odds=0.8):
            self.same(Merged(*book) == Book(*least_machine(book)), True)
