"""Promise [37]: sayings as objects."""

import random

from toldall.bookclasses import Book
from toldall.errors import InvalidRow, NotUsable
from toldall.holding import holds_at
from toldall.rowclasses import Row
from toldall.sayingclasses import Saying
from toldall.walkers import Walker
from tests.cases import BOTH, EITHER, FREE, LOOSE, ODD_DEEP, Case, slow_runs
from tests.sayings import (AT, DONE, EVEN, HEARD, LATEST, NO_FORMS, NO_SAYINGS, chain, slow_depth, slow_facts, slow_parts,
                           slow_text, some_saying)
from tests.test_bookchanges import NO_BOOKS
from tests.test_pasts import NO_PARTIES
from tests.test_runs import NO_ROWS

# The same deeds as in FREE, in another book.
ONCE = (FREE[0], ((('a', 1), ('m', 0), ('n', 0)), (('n', 1),)))


class SayingTest(Case):

    def check(self, saying, book, form):
        self.assertIs(saying.__class__, Saying)
        self.same([saying.form, saying == Saying(book, form)], [form, True])

    def test_document(self):
        done = Saying.happened(FREE, 'a')
        heard = done.known(('z',))
        self.same([str(~heard), heard(('a', 'm', 'n')), len(done >> heard), ('done', 'a', 1) in heard,
                   heard == Saying(FREE, HEARD)], ['not(knows(z,done(a,1)))', True, 5, True, True])
        self.unusable('text', Saying.read, EITHER, 'done(m,1)')

    def test_what_is_told_of_the_form(self):
        dice = random.Random(181)
        for book in (FREE, EITHER, BOTH, LOOSE):
            for _ in range(30):
                form = some_saying(dice, book, 3, 12)
                saying = Saying(form=form, book=book)
                self.same([saying.form, saying.facts, saying.depth, len(saying), str(saying)],
                          [form, slow_facts(form), slow_depth(form), len(slow_parts(form)), slow_text(form)])
                for part in slow_parts(form):
                    self.assertIs(part in saying, True)
                self.check(Saying.read(book, str(saying)), book, form)

    def test_signs(self):
        dice = random.Random(182)
        for book in (FREE, EITHER, LOOSE):
            for _ in range(12):
                s, t = some_saying(dice, book, 2, 5), some_saying(dice, book, 2, 5)
                one, other = Saying(book, s), Saying(eval(repr(book)), t)
                for made, form in (
                        (~one, ('not', s)), (one & other, ('and', s, t)), (one | other, ('or', s, t)),
                        (one ^ other, ('or', ('and', s, ('not', t)), ('and', ('not', s), t))),
                        (one >> other, ('or', ('not', s), t)), (one & one, ('and', s, s)), (~~one, ('not', ('not', s)))):
                    self.check(made, book, form)
                for run in slow_runs(book, 2)[:3]:
                    first, second = one(run), other(run)
                    self.same([(~one)(run), (one & other)(run), (one | other)(run), (one ^ other)(run), (one >> other)(run)],
                              [not first, first and second, first or second, first != second, not first or second])

    def test_calls_and_known(self):
        dice = random.Random(183)
        for book in (FREE, EITHER, LOOSE):
            for _ in range(6):
                saying = Saying(book, some_saying(dice, book, 2, 6))
                for run in slow_runs(book, 1) + slow_runs(book, 2)[:2]:
                    self.same([saying(run), saying(run=run)], [holds_at(book, saying.form, run)] * 2)
                self.check(saying.known(('x', 'y')), book, ('knows', ('x', 'y'), saying.form))
                self.check(saying.known(parties=('y',)), book, ('knows', ('y',), saying.form))

    def test_what_is_no_part(self):
        saying = Saying(FREE, ('and', HEARD, ('or', EVEN, ('not', AT))))
        for part in (HEARD, DONE, EVEN, AT, ('not', AT), ('or', EVEN, ('not', AT)), saying.form):
            self.same(part in saying, True)
        for odd in (*NO_FORMS, LATEST, ('done', 'a', 2), ('not', HEARD), 'and', 'a', ('z',), ('modulo', 'm', 2, 1), saying,
                    Saying(FREE, DONE), list(DONE), ('done', 'a', True), ('modulo', 'm', 2, False), ('at', (False,)),
                    ('not', ('at', (False,))), chain('not', 30), FREE, Row(FREE)):
            self.assertIs(odd in saying, False)

    def test_equal_sayings(self):
        one = Saying(FREE, HEARD)
        self.same([one == Saying(eval(repr(FREE)), eval(repr(HEARD))), one != Saying(FREE, HEARD), one == ~~one,
                   one == Saying(ONCE, HEARD), one == Saying(FREE, DONE)], [True, False, False, False, False])
        self.same([Saying(EITHER, DONE) == Saying(BOTH, DONE), one == one.known(('z',)),
                   Saying(FREE, ('and', DONE, AT)) == Saying(FREE, ('and', AT, DONE))], [False, False, False])
        for odd in (*ODD_DEEP, HEARD, str(one), Book(*FREE), Row(FREE), Walker(FREE), FREE):
            self.same([one == odd, odd == one, one != odd], [False, False, True])

    def test_what_signs_refuse(self):
        one = Saying(FREE, DONE)
        others = (*ODD_DEEP, DONE, HEARD, 'done(a,1)', FREE, Book(*FREE), Row(FREE), Saying(ONCE, DONE), Saying(EITHER, DONE),
                  Saying)
        for odd in others:
            for refused in (lambda: one & odd, lambda: one | odd, lambda: one ^ odd, lambda: one >> odd):
                self.unusable('other', refused)
        for odd in (*NO_ROWS, ('b',), Row(FREE, ('a',))):
            if odd != () or not isinstance(odd, tuple):
                self.unusable('run', one, odd)
        self.unusable('run', Saying(EITHER, DONE), ('a', 'b'))
        for odd in (*NO_PARTIES, Row(FREE)):
            self.unusable('parties', one.known, odd)

    def test_a_saying_never_changes(self):
        one = Saying(FREE, DONE)
        kept = one
        one &= kept
        one |= kept
        one ^= kept
        one >>= kept
        self.same([kept.form, str(kept), len(kept), kept.facts, kept.depth], [DONE, 'done(a,1)', 1, (DONE,), 0])
        for name in ('form', 'facts', 'depth'):
            with self.assertRaises(AttributeError):
                setattr(kept, name, ())
        for refused in (lambda: kept & 1, lambda: kept('a'), lambda: kept.known(()), lambda: kept >> None):
            with self.assertRaises(NotUsable):
                refused()
        self.same([kept.form, kept == Saying(FREE, DONE)], [DONE, True])

    def test_what_makes_no_saying(self):
        for odd in (*NO_BOOKS, Book(*FREE)):
            self.unusable('book', Saying, odd, DONE)
            self.unusable('book', Saying, odd, odd)
            self.unusable('book', Saying.read, odd, 'done(a,1)')
            self.unusable('book', Saying.read, odd, None)
            self.unusable('book', Saying.happened, odd, 'a')
            self.unusable('book', Saying.happened, odd, None, None)
        for odd in (*NO_SAYINGS, 'done(a,1)', Saying(FREE, DONE), ('not', Saying(FREE, DONE))):
            self.unusable('form', Saying, FREE, odd)
            self.unusable('form', Saying, form=odd, book=FREE)

    def test_read(self):
        self.check(Saying.read(FREE, 'knows(z,done(a,1))'), FREE, HEARD)
        self.check(Saying.read(text='at(2)', book=EITHER), EITHER, ('at', (2,)))
        for text in ('', 'done(a,0)', 'done(a,1) ', 'not(at(0)', 'done(b,x)', '\n'):
            self.refused(InvalidRow, {'row': text}, Saying.read, FREE, text)
        for text in ('done(b,1)', 'at(1)', 'latest(a,n)', 'knows(w,at(0))', 'not(and(at(0),at(0,1)))', 'modulo(x,2,0)'):
            self.unusable('text', Saying.read, FREE, text)
        for odd in (*ODD_DEEP, DONE, Saying(FREE, DONE)):
            if not isinstance(odd, str):
                self.unusable('text', Saying.read, FREE, odd)

    def test_happened(self):
        self.check(Saying.happened(FREE, 'm'), FREE, ('done', 'm', 1))
        self.check(Saying.happened(FREE, 'm', 3), FREE, ('done', 'm', 3))
        self.check(Saying.happened(n=2, deed='b', book=EITHER), EITHER, ('done', 'b', 2))
        for odd in (*ODD_DEEP, 'b', 'x', ('a',), Row(FREE)):
            self.unusable('deed', Saying.happened, FREE, odd)
            self.unusable('deed', Saying.happened, FREE, odd, 0)
        for odd in (*ODD_DEEP, 0, -1, -10 ** 59, '1', (1,), Row(FREE)):
            if isinstance(odd, bool) or not isinstance(odd, int) or odd < 1:
                self.unusable('n', Saying.happened, FREE, 'a', odd)
                self.unusable('n', Saying.happened, FREE, 'a', n=odd)
