"""Promises [36] and, of texts, [38]."""

import random

from toldall.bookclasses import Book
from toldall.errors import InvalidRow
from toldall.sayingreadings import saying_read
from toldall.sayingtexts import saying_text
from tests.cases import FREE, LOOSE, ODD_DEEP, Case, some_books
from tests.sayings import (AT, DONE, EVEN, HEARD, LATEST, NO_FORMS, chain, slow_text, some_saying)

BIG = 10 ** 60 - 1

TEXTS = (
    (DONE, 'done(a,1)'), (('done', 'abcdefgh', BIG), 'done(abcdefgh,' + '9' * 60 + ')'), (EVEN, 'modulo(m,2,0)'),
    (('modulo', 'm', BIG, BIG - 1), 'modulo(m,' + '9' * 60 + ',' + '9' * 59 + '8)'), (LATEST, 'latest(m,a)'), (AT, 'at(0)'),
    (('at', (0, 2, 10, BIG)), 'at(0,2,10,' + '9' * 60 + ')'), (('not', DONE), 'not(done(a,1))'),
    (('and', DONE, AT), 'and(done(a,1),at(0))'), (('or', AT, DONE), 'or(at(0),done(a,1))'), (HEARD, 'knows(z,done(a,1))'),
    (('knows', ('b', 'x', 'zz'), ('at', (1, 2))), 'knows(b+x+zz,at(1,2))'), (('done', 'knows', 3), 'done(knows,3)'),
    (('latest', 'and', 'or'), 'latest(and,or)'), (('knows', ('not',), ('done', 'at', 1)), 'knows(not,done(at,1))'),
    (('or', ('and', ('not', HEARD), AT), ('knows', ('x', 'y'), ('or', LATEST, EVEN))),
     'or(and(not(knows(z,done(a,1))),at(0)),knows(x+y,or(latest(m,a),modulo(m,2,0))))'))

NOTHING = (
    '', ' ', '\n', '-', '0', 'a', 'done', 'done()', 'done(', 'done)', '()', '(', ')', '(done(a,1))', ',', 'not', 'not()', 'not(',
    'done(a,1', 'done(a,1))', 'done((a,1)', 'done(a,1)(', 'done(a,1)()', 'donea,1)', 'done(a1)', 'done(a,,1)', 'done(a,1,)',
    'done(,a,1)', 'done(a,1,1)', 'done(a)', 'done(1,a)', 'done(a,a)', 'done(,1)', 'done(a,)', 'done[a,1]', 'done(a;1)',
    'done(a.1)', 'done(a+b,1)', 'done(a,1+2)', 'Done(a,1)', 'DONE(a,1)', 'don(a,1)', 'doned(a,1)', 'd(a,1)', 'xor(at(0),at(0))',
    ' done(a,1)', 'done(a,1) ', 'done (a,1)', 'done( a,1)', 'done(a ,1)', 'done(a, 1)', 'done(a,1 )', 'done(a,1)\n',
    '\ndone(a,1)', 'done(a\n,1)', 'done(a,1\n)', 'done(\na,1)', 'knows(x\n,at(0))', 'not(at(0)\n)', "done('a',1)",
    'done(A,1)', 'done(abcdefghi,1)', 'done(a1,1)', 'done(a-b,1)', 'done(_,1)', 'done(a,0)', 'done(a,00)', 'done(a,01)',
    'done(a,-1)', 'done(a,+1)', 'done(a,1.0)', 'done(a,1_0)', 'done(a,x)', 'done(a,True)', 'done(a,1e3)', 'done(a,0x1)',
    'done(a,' + '1' * 61 + ')', 'done(a,' + '0' * 60 + '1)', 'done(a,' + '9' * 3900 + ')', 'modulo(m,2)', 'modulo(m,2,2)',
    'modulo(m,2,3)', 'modulo(m,1,0)', 'modulo(m,0,0)', 'modulo(m,2,00)', 'modulo(m,02,1)', 'modulo(m,2,-0)', 'modulo(2,m,1)',
    'modulo(m,2,1,0)', 'modulo(m,' + '1' * 61 + ',1)', 'modulo(M,2,1)', 'modulo(m,,1)', 'latest(a)', 'latest(a,a)',
    'latest(a,b,c)', 'latest(a,1)', 'latest(a,)', 'latest(,a)', 'latest(a+b)', 'latest(A,b)', 'at()', 'at(-1)', 'at(a)',
    'at(0,0)', 'at(1,0)', 'at(00)', 'at(0,01)', 'at(0,)', 'at(,0)', 'at(0+1)', 'at((0))', 'at(0)(1)', 'at(' + '1' * 61 + ')',
    'at(0,,1)', 'not(at(0),at(1))', 'not(at)', 'not(a)', 'not(not)', 'not(done(a,0))', 'not(at(0)))', 'not((at(0)))',
    'not(at(0)', 'and(at(0))', 'and(at(0),)', 'and(,at(0))', 'and(at(0),at(1),at(2))', 'and(at(0)at(1))', 'and(at(0)+at(1))',
    'or()', 'or(at(0))', 'or(at(0),x)', 'or(x,at(0))', 'or(at(0),at(1)', 'or(at(0),at(1)))', 'knows(x)', 'knows(x,)',
    'knows(,at(0))', 'knows(at(0))', 'knows(x,at(0),at(1))', 'knows(x,y,at(0))', 'knows(y+x,at(0))', 'knows(x+x,at(0))',
    'knows(x+,at(0))', 'knows(+x,at(0))', 'knows(x++y,at(0))', 'knows(+,at(0))', 'knows(X,at(0))', 'knows(1,at(0))',
    'knows((x),at(0))', 'knows(x y,at(0))', 'knows(x,knows(y))', 'knows(x,at(0)+at(1))', 'nots(at(0))', 'and(at(0),at(1)),at(2)',
    'at(0),at(1)', 'at(0)at(1)', 'at(0)(', ')at(0)(', 'not(at(0))(at(0))', 'not(at(0))not(at(0))', 'and(at(0),at(1))(', '(' * 31,
    '(' * 4000, ')' * 4000, 'not(' * 1000, 'x' * 4000, ',' * 4000)


class SayingTextsTest(Case):

    def nothing(self, text):
        self.refused(InvalidRow, {'row': text}, saying_read, text)

    def test_document(self):
        self.same([saying_text(('and', HEARD, ('modulo', 'm', 2, 1))), saying_read('knows(x+y,not(at(0,2)))')],
                  ['and(knows(z,done(a,1)),modulo(m,2,1))', ('knows', ('x', 'y'), ('not', ('at', (0, 2))))])
        self.nothing('done(a,0)')

    def test_both_ways(self):
        for saying, text in TEXTS:
            self.same([saying_text(saying), saying_read(text)], [text, saying])
            self.same([saying_text(saying=saying), saying_read(text=text)], [text, saying])

    def test_sayings_of_the_dice(self):
        dice = random.Random(141)
        for book in (FREE, LOOSE, *some_books(142, 5, deeds=5, states=4, odds=0.7)):
            for _ in range(60):
                saying = some_saying(dice, book, 4, 20)
                text = slow_text(saying)
                self.same([saying_text(saying), saying_read(text)], [text, saying])

    def test_texts_that_write_nothing(self):
        for text in NOTHING:
            self.nothing(text)
            self.nothing('not(' + text + ')')
            self.nothing('and(at(0),' + text + ')')
            self.nothing('or(' + text + ',at(0))')

    def test_one_sign_more_or_less_or_another(self):
        dice = random.Random(143)
        signs = 'amxz01(),+ -\n'
        written = 0
        for saying, text in TEXTS:
            for _ in range(150):
                k = dice.randrange(len(text) + 1)
                other = text[:k] + dice.choice(('', dice.choice(signs))) + text[k + dice.randrange(2):]
                try:
                    read = saying_read(other)
                except InvalidRow as error:
                    self.same(vars(error), {'row': other})
                else:
                    written += 1
                    self.same([saying_text(read), slow_text(read)], [other, other])
        self.assertTrue(written > 50, written)

    def test_open_brackets(self):
        for word in ('not', 'knows'):
            for many in (1, 28, 29):
                saying = chain(word, many)
                self.same(saying_read(saying_text(saying)), saying)
            for many in (30, 31, 400):
                self.nothing(saying_text(chain(word, many)))
        # Thirty are open at a sign in the midst, and then thirty-one.
        self.same(saying_read(saying_text(('and', chain('not', 28), HEARD))), ('and', chain('not', 28), HEARD))
        self.nothing(saying_text(('and', chain('not', 29), DONE)))
        self.nothing(saying_text(('or', HEARD, chain('not', 29))))
        # Many brackets, of which few are open at once.
        wide = DONE
        for _ in range(6):
            wide = ('and', wide, wide)
        self.same(saying_read(saying_text(wide)), wide)

    def test_deep_sayings_are_written(self):
        self.same([saying_text(chain('not', 39)), saying_text(chain('not', 400))],
                  ['not(' * 39 + 'done(a,1)' + ')' * 39, 'not(' * 400 + 'done(a,1)' + ')' * 400])
        self.same(saying_text(chain('knows', 39)), 'knows(x,' * 39 + 'done(a,1)' + ')' * 39)

    def test_what_is_no_saying_by_form_or_no_string(self):
        for odd in (*NO_FORMS, 'done(a,1)', Book(*FREE)):
            self.unusable('saying', saying_text, odd)
            self.unusable('saying', saying_text, ('and', DONE, odd))
        for odd in (*ODD_DEEP, DONE, ['done(a,1)'], Book(*FREE)):
            if not isinstance(odd, str):
                self.unusable('text', saying_read, odd)
                self.unusable('text', saying_read, text=odd)
