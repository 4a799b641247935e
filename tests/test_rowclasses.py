"""Promises [31] and [33]: rows as objects."""

from toldall.bookclasses import Book
from toldall.errors import InvalidText
from toldall.exchanges import are_alike, least_row, rounds_of
from toldall.orders import common_row, is_beginning, joined_row
from toldall.pasts import past_of, rest_of
from toldall.rowclasses import Row
from toldall.walkers import Walker
from tests.cases import BOTH, EITHER, FREE, LOOSE, ODD_DEEP, Case, slow_alike
from tests.sayings import slow_sets
from tests.test_bookchanges import NO_BOOKS
from tests.test_exchanges import cases
from tests.test_orders import pairs
from tests.test_pasts import NO_PARTIES
from tests.test_runs import NO_ROWS

# The same deeds as in FREE, in another book.
ONCE = (FREE[0], ((('a', 1), ('m', 0), ('n', 0)), (('n', 1),)))


def others():
    """Values that no sign takes beside a Row of FREE."""
    return (*ODD_DEEP, 'b', 'x', ('a',), ['a'], ('n', 'a'), FREE, Book(*FREE), Walker(FREE), Row(EITHER), Row(LOOSE),
            Row(EITHER, ('a',)), Row)


class RowTest(Case):

    def test_document(self):
        one = Row(FREE, ('n', 'a', 'm'))
        self.same([str(one), one == Row.read(FREE, 'a n m'), str(one % ('z',)), str(one // ('z',)), abs(one), one[0],
                   'm' in one], ['a n m', True, 'n', 'a m', 2, 'a', True])
        self.same([str('n' + Row(FREE, ('a',)) + 'm'), str(one & Row(FREE, ('a', 'm'))), str(one | Row(FREE, ('n',))),
                   Row(FREE).begins_in(one)], ['a n m', 'a', 'a n m', True])
        self.refused(InvalidText, {'line': 0, 'field': 1}, Row.read, FREE, 'a  n')
        self.unusable('other', lambda: Row(FREE, ('a', 'm')) | Row(FREE, ('n', 'a')))

    def test_what_is_that_of_the_least_row(self):
        for book, row in cases(101, most=6):
            one = Row(book, row)
            least = slow_alike(book, row)[0]
            self.same([one.deeds_now, len(one), list(one), [name for name in one], tuple(one)],
                      [least, len(row), list(least), list(least), least])
            self.same([one[k] for k in range(len(row))], list(least))
            self.same([name in one for name, own in book[0]], [name in row for name, own in book[0]])
            self.same([str(one), abs(one)], [' '.join(least) if row else '-', len(rounds_of(book, row))])

    def test_empty_rows(self):
        for one in (Row(FREE), Row(FREE, ()), Row(row=(), book=FREE)):
            self.same([one.deeds_now, len(one), list(one), str(one), abs(one), 'a' in one], [(), 0, [], '-', 0, False])
            self.unusable('k', lambda: one[0])

    def test_rows_that_are_not_allowed(self):
        one = Row(LOOSE, ('n', 'm', 'a', 'a'))
        self.same([str(one), len(one), one[3]], ['n m a a', 4, 'a'])

    def test_indexes(self):
        one = Row(FREE, ('n', 'a', 'm'))
        self.same([one[0], one[1], one[2]], ['a', 'n', 'm'])
        for odd in (*ODD_DEEP, 3, 4, -1, -3, 10 ** 59, '0', 'a', (0,), [0], one):
            if odd not in (0, 1) or isinstance(odd, bool):
                self.unusable('k', lambda: one[odd])

    def test_names_in_a_row(self):
        one = Row(FREE, ('n', 'a', 'n'))
        self.same(['a' in one, 'n' in one, 'm' in one, 'x' in one], [True, True, False, False])
        for odd in (*ODD_DEEP, ('a',), ['a'], 'a n', one, Row(FREE, ('a',)), Book(*FREE)):
            self.same(odd in one, False)

    def test_equal_rows(self):
        told = {True: 0, False: 0}
        for book, row, other in pairs(102, 4):
            for each in (row, other, *slow_alike(book, row)[-3:]):
                wanted = each in slow_alike(book, row)
                told[wanted] += 1
                self.same([Row(book, row) == Row(book, each), Row(book, row) != Row(book, each)], [wanted, not wanted])
        self.assertTrue(min(told.values()) > 100, told)
        again = eval(repr(FREE))
        self.same([Row(FREE, ('a', 'n')) == Row(again, ('n', 'a')), Row(FREE, ('a',)) == Row(ONCE, ('a',)),
                   Row(FREE) == Row(EITHER), Row(EITHER) == Row(BOTH)], [True, False, False, False])
        for odd in (*ODD_DEEP, ('a', 'n'), ['a', 'n'], 'a n', Book(*FREE), Walker(FREE)):
            one = Row(FREE, ('a', 'n'))
            self.same([one == odd, odd == one, one != odd, Row(FREE) == odd], [False, False, True, False])

    def test_rows_behind_rows(self):
        for book, row, other in pairs(103, 4):
            one, two = Row(book, row), Row(book, other)
            self.same([(one + two).deeds_now, (two + one).deeds_now],
                      [least_row(book, row + other), least_row(book, other + row)])
            for name, own in book[0]:
                self.same([(one + name).deeds_now, (name + one).deeds_now],
                          [least_row(book, (*row, name)), least_row(book, (name, *row))])
        again = Row(eval(repr(FREE)), ('n',))
        self.same([str(Row(FREE, ('m',)) + again), str(again + Row(FREE, ('m',)))], ['m n', 'n m'])

    def test_pasts_and_rests(self):
        for book, row in cases(104, most=5):
            one = Row(book, row)
            for parties in slow_sets(book):
                self.same([(one % parties).deeds_now, (one // parties).deeds_now],
                          [least_row(book, past_of(book, row, parties)), least_row(book, rest_of(book, row, parties))])
                self.same((one % parties) + (one // parties) == one, True)
        for odd in (*NO_PARTIES, 'x', 'a', Row(FREE), ()):
            self.unusable('parties', lambda: Row(FREE, ('a',)) % odd)
            self.unusable('parties', lambda: Row(FREE, ('a',)) // odd)

    def test_common_and_joined(self):
        for book, row, other in pairs(105, 4):
            one, two = Row(book, row), Row(book, other)
            self.same([(one & two).deeds_now, one.begins_in(two), one.begins_in(other=two)],
                      [common_row(book, row, other), is_beginning(book, row, other), is_beginning(book, row, other)])
            joined = joined_row(book, row, other)
            if joined is None:
                self.unusable('other', lambda: one | two)
            else:
                self.same([(one | two).deeds_now, one.begins_in(one | two)], [joined, True])
            self.same([(one & two).begins_in(one), one.begins_in(one + two)], [True, True])
            self.same(one == two, are_alike(book, row, other))

    def test_what_signs_refuse(self):
        one = Row(FREE, ('a', 'n'))
        for odd in others():
            self.unusable('other', lambda: one + odd)
            self.unusable('other', lambda: one & odd)
            self.unusable('other', lambda: one | odd)
            self.unusable('other', one.begins_in, odd)
            if not isinstance(odd, (Row, Book)):
                self.unusable('other', lambda: odd + one)
        for name in ('a', 'm'):
            self.unusable('other', lambda: one & name)
            self.unusable('other', lambda: one | name)
            self.unusable('other', one.begins_in, name)
        self.unusable('other', lambda: Row(ONCE) + one)
        self.unusable('other', lambda: one + Row(ONCE))
        self.unusable('other', lambda: one & Row(ONCE))
        self.unusable('other', lambda: one | Row(ONCE))
        self.unusable('other', one.begins_in, Row(ONCE))

    def test_a_row_never_changes(self):
        one = Row(FREE, ('n', 'a'))
        kept = one
        one += 'm'
        self.assertIsNot(one, kept)
        one %= ('x',)
        one //= ('z',)
        one &= kept
        one |= kept
        self.same([kept.deeds_now, str(kept), len(kept)], [('a', 'n'), 'a n', 2])
        with self.assertRaises(AttributeError):
            kept.deeds_now = ()
        with self.assertRaises(TypeError):
            kept[0] = 'm'
        for refused in (lambda: kept + 1, lambda: 1 + kept, lambda: kept[2], lambda: kept % 'x', lambda: kept | None):
            with self.assertRaises(ValueError):
                refused()
        self.same([kept.deeds_now, str(kept), kept == Row(FREE, ('a', 'n'))], [('a', 'n'), 'a n', True])

    def test_read(self):
        for book, row in cases(106, most=5):
            text = ' '.join(row) if row else '-'
            one = Row.read(book, text)
            self.same([one == Row(book, row), str(one), Row.read(book, str(one)) == one],
                      [True, str(Row(book, row)), True])
            self.assertIs(one.__class__, Row)
        self.same(Row.read(text='n a', book=FREE).deeds_now, ('a', 'n'))

    def test_texts_that_write_no_row(self):
        for text, field in (('', 0), (' ', 0), ('a ', 1), (' a', 0), ('a  n', 1), ('- a', 0), ('a -', 1), ('--', 0), ('- ', 0),
                            ('b', 0), ('a b n', 1), ('a n x', 2), ('a\n', 0), ('a\nn', 0), ('\n', 0), ('a \n', 1),
                            ('A', 0), ('a,n', 0), ('an', 0), ('a n m a n b', 5), (' -', 0), ('-\n', 0), ("'a'", 0)):
            self.refused(InvalidText, {'line': 0, 'field': field}, Row.read, FREE, text)

    def test_what_makes_no_row(self):
        for odd in (*NO_BOOKS, Book(*FREE), Row(FREE)):
            self.unusable('book', Row, odd)
            self.unusable('book', Row, odd, None)
            self.unusable('book', Row.read, odd, 'a')
            self.unusable('book', Row.read, odd, None)
        for odd in (*NO_ROWS, ('a', 'b'), Row(FREE), Book(*FREE), (Row(FREE),)):
            if not isinstance(odd, tuple) or odd != ():
                self.unusable('row', Row, FREE, odd)
        for odd in (*ODD_DEEP, Row(FREE)):
            if not isinstance(odd, str):
                self.unusable('text', Row.read, FREE, odd)
