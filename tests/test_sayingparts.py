"""Promises [35] and, of the marks, [38]."""

import random

from toldall.sayingparts import depth_of, facts_of, is_positive, marks_after, parts_of_saying, party_sets
from tests.cases import BOTH, EITHER, FREE, LOOSE, Case, slow_runs, some_books
from tests.sayings import (AT, DONE, EVEN, HEARD, LATEST, NO_FORMS, NO_SAYINGS, chain, slow_depth, slow_facts, slow_mark,
                           slow_parts, slow_sets, some_saying)
from tests.test_bookchanges import NO_BOOKS
from tests.test_runs import FOUR, NO_ROWS

BY_FORM = (parts_of_saying, facts_of, depth_of, is_positive)


def slow_positive(saying, nots=0):
    if saying[0] in ('and', 'or'):
        return slow_positive(saying[1], nots) and slow_positive(saying[2], nots)
    if saying[0] == 'not':
        return slow_positive(saying[1], nots + 1)
    if saying[0] == 'knows':
        return nots % 2 == 0 and slow_positive(saying[2], nots)
    return True


class PartsTest(Case):

    def test_document(self):
        self.same([depth_of(HEARD), facts_of(HEARD), is_positive(('not', HEARD)), party_sets(EITHER)],
                  [1, (('done', 'a', 1),), False, (('x',), ('y',), ('x', 'y'))])
        self.same(marks_after(FREE, ('and', ('modulo', 'm', 2, 1), ('latest', 'm', 'a')), ('m', 'a', 'm', 'm')), (1, 1))

    def test_every_form(self):
        for leaf in (DONE, EVEN, LATEST, AT, ('done', 'zz', 10 ** 59), ('at', (0, 7))):
            facts = () if leaf[0] == 'at' else (leaf,)
            for saying, parts, depth in (
                    (leaf, (leaf,), 0), (('not', leaf), (('not', leaf), leaf), 0),
                    (('and', leaf, leaf), (('and', leaf, leaf), leaf, leaf), 0),
                    (('or', leaf, leaf), (('or', leaf, leaf), leaf, leaf), 0),
                    (('knows', ('q',), leaf), (('knows', ('q',), leaf), leaf), 1)):
                self.same([parts_of_saying(saying), facts_of(saying), depth_of(saying), is_positive(saying)],
                          [parts, facts, depth, True])

    def test_order_of_parts(self):
        one, two = ('or', DONE, ('not', EVEN)), ('knows', ('x',), ('and', LATEST, AT))
        self.same(parts_of_saying(('and', one, two)),
                  (('and', one, two), one, DONE, ('not', EVEN), EVEN, two, ('and', LATEST, AT), LATEST, AT))
        self.same(parts_of_saying(saying=('and', two, one)),
                  (('and', two, one), two, ('and', LATEST, AT), LATEST, AT, one, DONE, ('not', EVEN), EVEN))

    def test_facts_that_stand_twice(self):
        again = ('and', ('or', EVEN, DONE), ('knows', ('x',), ('and', DONE, ('not', LATEST))))
        self.same([facts_of(again), facts_of(saying=('and', again, again)), facts_of(('and', AT, AT))],
                  [(DONE, LATEST, EVEN), (DONE, LATEST, EVEN), ()])
        self.same(facts_of(('and', ('done', 'a', 2), ('or', ('done', 'a', 10), ('done', 'a', 9)))),
                  (('done', 'a', 2), ('done', 'a', 9), ('done', 'a', 10)))
        self.same(facts_of(('or', ('modulo', 'a', 3, 2), ('or', ('modulo', 'a', 3, 1), ('latest', 'b', 'a')))),
                  (('latest', 'b', 'a'), ('modulo', 'a', 3, 1), ('modulo', 'a', 3, 2)))

    def test_positive_sayings(self):
        for saying, wanted in (
                (('not', DONE), True), (('not', HEARD), False), (('not', ('not', HEARD)), True),
                (('knows', ('x',), ('not', DONE)), True), (('knows', ('x',), ('not', HEARD)), False),
                (('not', ('knows', ('x',), ('not', HEARD))), False), (('not', ('and', DONE, HEARD)), False),
                (('and', ('not', DONE), HEARD), True), (('or', HEARD, ('not', HEARD)), False),
                (('not', ('or', ('not', HEARD), ('not', ('and', DONE, HEARD)))), True),
                (('not', ('not', ('not', HEARD))), False), (('not', ('not', ('not', ('not', HEARD)))), True)):
            self.same([is_positive(saying), is_positive(saying=saying)], [wanted, wanted])

    def test_against_the_words_of_the_document(self):
        dice = random.Random(131)
        told = {True: 0, False: 0}
        for book in (FREE, LOOSE, *some_books(132, 6, deeds=4, states=3, odds=0.7)):
            for _ in range(50):
                saying = some_saying(dice, book, 3, 12)
                self.same([parts_of_saying(saying), facts_of(saying), depth_of(saying), is_positive(saying)],
                          [tuple(slow_parts(saying)), slow_facts(saying), slow_depth(saying), slow_positive(saying)])
                told[slow_positive(saying)] += 1
        self.assertTrue(min(told.values()) > 40, told)

    def test_deep_sayings(self):
        self.same([depth_of(chain('knows', 29)), depth_of(chain('not', 29)), len(parts_of_saying(chain('not', 29)))],
                  [29, 0, 30])
        self.same([depth_of(chain('knows', 400)), is_positive(chain('not', 399, HEARD)), facts_of(chain('not', 400))],
                  [400, False, (DONE,)])

    def test_what_is_no_saying_by_form(self):
        for odd in NO_FORMS:
            for function in BY_FORM:
                self.unusable('saying', function, odd)
                self.unusable('saying', function, saying=('not', odd))


class PartySetsTest(Case):

    def test_party_sets(self):
        self.same(party_sets(FREE), (('x',), ('y',), ('z',), ('x', 'y'), ('x', 'z'), ('y', 'z'), ('x', 'y', 'z')))
        self.same(party_sets(book=FOUR), tuple(slow_sets(FOUR)))
        self.same([len(party_sets(FOUR)), party_sets(FOUR)[-1], party_sets(FOUR)[4:7]],
                  [15, ('w', 'x', 'y', 'z'), (('w', 'x'), ('w', 'y'), ('w', 'z'))])
        self.same(party_sets(((('a', ('x',)),), ((),))), (('x',),))
        # Parties ascend as strings do.
        self.same(party_sets(((('a', ('b',)), ('c', ('aa', 'ab'))), ((),)))[:3], (('aa',), ('ab',), ('b',)))

    def test_no_book(self):
        for odd in NO_BOOKS:
            self.unusable('book', party_sets, odd)
            self.unusable('book', marks_after, odd, DONE, ())
            self.unusable('book', marks_after, odd, None, None)


class MarksTest(Case):

    def marks(self, saying, *run):
        return marks_after(FREE, saying, run)

    def test_done_is_capped(self):
        for n in (1, 2, 3):
            self.same([self.marks(('done', 'a', n), *('a' * k)) for k in range(6)], [(min(k, n),) for k in range(6)])
        self.same([self.marks(('done', 'a', 2), 'm', 'a', 'n'), self.marks(('done', 'a', 10 ** 59), *'aa')], [(1,), (2,)])

    def test_modulo(self):
        for k in (0, 1, 2):
            self.same([self.marks(('modulo', 'm', 3, k), *('m' * j)) for j in range(8)], [(j % 3,) for j in range(8)])
        self.same([self.marks(EVEN, 'a', 'm', 'n'), self.marks(('modulo', 'm', 10 ** 59, 0), *'mmm')], [(1,), (3,)])

    def test_latest(self):
        for run, mark in (('', 0), ('n', 0), ('m', 1), ('a', 0), ('ma', 0), ('am', 1), ('amm', 1), ('mam', 1), ('mama', 0),
                          ('mna', 0), ('mnn', 1), ('aa', 0), ('amn', 1)):
            self.same([self.marks(LATEST, *run), marks_after(run=tuple(run), saying=LATEST, book=FREE)], [(mark,)] * 2)

    def test_several_facts(self):
        saying = ('or', ('and', LATEST, EVEN), ('knows', ('x',), ('or', ('done', 'n', 2), ('and', EVEN, DONE))))
        # Ascending: done a, done n, latest, modulo.
        self.same([self.marks(saying, *'mannn'), self.marks(saying), self.marks(saying, *'aam')],
                  [(1, 2, 0, 1), (0, 0, 0, 0), (1, 0, 1, 1)])
        self.same([self.marks(AT, 'a'), self.marks(('knows', ('x',), AT))], [(), ()])

    def test_against_the_words_of_the_document(self):
        dice = random.Random(133)
        for book in (FREE, EITHER, BOTH, LOOSE, *some_books(134, 8, deeds=3, states=3, odds=0.8)):
            for _ in range(6):
                saying = some_saying(dice, book, 2, 10)
                for length in range(5):
                    for run in slow_runs(book, length):
                        wanted = tuple(slow_mark(fact, run) for fact in slow_facts(saying))
                        self.same(marks_after(book, saying, run), wanted)

    def test_marks_hang_on_those_before_alone(self):
        saying = ('or', ('and', LATEST, ('modulo', 'a', 3, 1)), ('done', 'a', 2))
        behind = {}
        for length in range(6):
            for run in slow_runs(FREE, length):
                for name in 'amn':
                    key = (self.marks(saying, *run), name)
                    marks = self.marks(saying, *run, name)
                    self.same(behind.setdefault(key, marks), marks)
        self.assertTrue(len(behind) > 20)

    def test_first_parameter_that_cannot_be_used(self):
        for odd in NO_SAYINGS:
            self.unusable('saying', marks_after, FREE, odd, ('a',))
            self.unusable('saying', marks_after, FREE, odd, None)
        for odd in (*NO_ROWS, ('m',)):
            if odd != () or isinstance(odd, list):
                self.unusable('run', marks_after, LOOSE, DONE, odd)
