"""Promise [11]: the nine functions of the module kinds."""

from toldall.kinds import (is_book, is_deed, is_integer, is_machine, is_name, is_name_set, is_number,
                           is_row, is_saying)
from tests.cases import BOTH, EITHER, FREE, LOOSE, ODD_DEEP, ONEWAY, SPLIT, Case, nested

ALL = (is_integer, is_number, is_name, is_name_set, is_deed, is_row, is_machine, is_book, is_saying)
DONE = ('done', 'a', 1)


def chain(word, depth):
    saying = DONE
    for _ in range(depth):
        saying = (word, saying) if word == 'not' else (word, ('x',), saying)
    return saying


class KindsTest(Case):

    def all_are(self, function, wanted, things):
        for thing in things:
            before = repr(thing)
            self.assertIs(function(thing), wanted, before)
            self.assertIs(function(thing=thing), wanted)
            self.assertEqual(repr(thing), before)

    def test_integers(self):
        self.all_are(is_integer, True, (0, 1, -1, 7, 10 ** 60 - 1, -10 ** 60 + 1))
        self.all_are(is_integer, False, (True, False, None, '', '1', (), (1,), [1], [], nested(1)))

    def test_numbers(self):
        self.all_are(is_number, True, (0, 1, 2, 10 ** 60 - 1))
        self.all_are(is_number, False, (-1, -10 ** 59, True, False, None, '0', (0,), [0], nested(0)))

    def test_names(self):
        self.all_are(is_name, True, ('a', 'z', 'az', 'abcdefgh', 'zzzzzzzz'))
        self.all_are(is_name, False, ('', 'abcdefghi', 'A', 'aB', 'a1', '1', 'a b', ' a', 'a ', '`', '{', 'a{', '`a',
                                      'a\n', '\n', 'a_', 'a' * 4000, None, True, 1, ('a',), ['a'], []))

    def test_name_sets(self):
        self.all_are(is_name_set, True, (('a',), ('a', 'b'), ('a', 'aa', 'b'), ('x', 'y', 'z'), ('ab', 'b')))
        self.all_are(is_name_set, False, ((), ('a', 'a'), ('b', 'a'), ('a', 'c', 'b'), ('a', 'b', 'b'), ('A',),
                                          ('a', ''), ('a', 1), (1,), ('a', True), ['a'], ['a', 'b'], 'a', 'ab', [],
                                          None, True, (('a',),), ('a', ('b',)), (['a'],), nested('a')))

    def test_rows(self):
        self.all_are(is_row, True, ((), ('a',), ('b', 'a'), ('a', 'a', 'a'), ('abcdefgh',), ('a',) * 40))
        self.all_are(is_row, False, (None, True, 0, '', 'a', [], ['a'], ('A',), ('',), ('a', 1), ('a', True),
                                     ('a', None), ('a', ('b',)), (['a'],), ('a', 'abcdefghi'), nested('a')))

    def test_deeds(self):
        self.all_are(is_deed, True, (('a', ('x',)), ('m', ('x', 'y')), ('x', ('x',)), ('abcdefgh', ('a', 'b'))))
        self.all_are(is_deed, False, (('a', ()), ('a', ('y', 'x')), ('a', ('x', 'x')), ('a', ['x']), ['a', ('x',)],
                                      ('', ('x',)), ('A', ('x',)), ('a',), ('a', ('x',), ('y',)), ('a', 'x'), ('ab'),
                                      (('x',), 'a'), (1, ('x',)), ('a', (1,)), ('a', (True,)), (), None, True, 'a'))

    def test_machines(self):
        self.all_are(is_machine, True, (FREE, EITHER, SPLIT, ONEWAY, BOTH, LOOSE, (FREE[0], ((),))))
        deeds, one = EITHER[0], (('a', 1), ('b', 2))
        self.all_are(is_machine, False, (
            (deeds, ()), ((), ((),)), (deeds,), (deeds, ((),), ()), [deeds, ((),)], (list(deeds), ((),)),
            (deeds, [()]), (deeds, ([],)), ((deeds[1], deeds[0]), ((),)), ((deeds[0], deeds[0]), ((),)),
            (deeds, (one, ())), (deeds, (one[::-1], (), ())), (deeds, ((one[0], one[0]), (), ())),
            (deeds, ((('a', True),), ())), (deeds, ((('a', False),),)), (deeds, ((('a', -1),),)),
            (deeds, ((('a', None),),)), (deeds, ((('a', '0'),),)), (deeds, ((('a', (0,)),),)),
            (deeds, ((('c', 0),),)), (deeds, ((['a', 0],),)), (deeds, ((('a',),),)), (deeds, ((('a', 0, 0),),)),
            (deeds, (((['a'], 0),),)), (deeds, (((1, 0),),)), (deeds, (None,)), (deeds, ('',)), (deeds, 'ab'),
            ('ab', ((),)), ((('a', ['x']),), ((),)), ((('a', ()),), ((),)), (deeds, (('a', 0),))))

    def test_books(self):
        self.all_are(is_book, True, (FREE, EITHER, BOTH, LOOSE, (FREE[0], ((),))))
        self.all_are(is_book, False, (SPLIT, ONEWAY, (EITHER[0], ((('a', True), ('b', 0)), ())),
                                      list(FREE), (FREE[0], ()), (FREE[0],)))

    def test_sayings(self):
        self.all_are(is_saying, True, (
            DONE, ('done', 'abcdefgh', 10 ** 59), ('modulo', 'm', 2, 0), ('modulo', 'm', 2, 1), ('modulo', 'm', 3, 2),
            ('latest', 'a', 'm'), ('latest', 'm', 'a'), ('at', (0,)), ('at', (0, 2, 10 ** 59)), ('not', DONE),
            ('and', DONE, DONE), ('or', DONE, ('at', (1,))), ('knows', ('z',), DONE), ('knows', ('a', 'b'), DONE),
            ('not', ('not', ('and', ('knows', ('x',), ('knows', ('x',), DONE)), ('at', (3,))))),
            ('done', 'knows', 1), ('latest', 'and', 'or'), chain('not', 30), chain('knows', 30), chain('not', 400)))

    def test_near_misses_of_facts(self):
        self.all_are(is_saying, False, (
            ('done', 'a', 0), ('done', 'a', -1), ('done', 'a', True), ('done', 'a', '1'), ('done', 'a', None),
            ('done', 'a'), ('done', 'a', 1, 1), ('done',), ('done', 'A', 1), ('done', '', 1), ('done', ('a',), 1),
            ('done', 1, 'a'), ('done', 'a', (1,)), ['done', 'a', 1], ('Done', 'a', 1), ('done ', 'a', 1),
            ('modulo', 'm', 1, 0), ('modulo', 'm', 0, 0), ('modulo', 'm', 2, 2), ('modulo', 'm', 2, 3),
            ('modulo', 'm', 2, -1), ('modulo', 'm', 2, True), ('modulo', 'm', 2, False), ('modulo', 'm', True, 0),
            ('modulo', 'm', 2), ('modulo', 'm', 2, 1, 0), ('modulo', 'M', 2, 1), ('modulo', 'm', '2', 1),
            ('modulo', 'm', 2, None), ('modulo', 'm', -2, -3), ('modulo', 1, 2, 1), ('modulo',),
            ('latest', 'a', 'a'), ('latest', 'a'), ('latest', 'a', 'b', 'c'), ('latest', 'a', 1),
            ('latest', 1, 'a'), ('latest', 'a', ''), ('latest', '', 'a'), ('latest', 'a', ('m',)), ('latest',),
            ('latest', 'a', True), ('latest', True, False)))

    def test_near_misses_of_others(self):
        self.all_are(is_saying, False, (
            ('at', ()), ('at', (1, 0)), ('at', (1, 1)), ('at', (0, True)), ('at', (False,)), ('at', (-1,)),
            ('at', ('a',)), ('at', [0]), ('at', 0), ('at',), ('at', 0, 1), ('at', (0,), (1,)), ('at', ((0,),)),
            ('not',), ('not', DONE, DONE), ('not', ('done', 'a', 0)), ('not', list(DONE)), ('not', 'done'),
            ('and', DONE), ('and', DONE, DONE, DONE), ('and', DONE, ()), ('and', (), DONE), ('and',),
            ('or', DONE), ('or', DONE, DONE, DONE), ('or', DONE, None), ('or', True, DONE), ('or',),
            ('knows', (), DONE), ('knows', ('y', 'x'), DONE), ('knows', ('x', 'x'), DONE), ('knows', ['x'], DONE),
            ('knows', 'x', DONE), ('knows', ('x',)), ('knows', DONE), ('knows', ('x',), DONE, DONE),
            ('knows', ('X',), DONE), ('knows', (1,), DONE), ('knows', ('x',), ('knows', (), DONE)), ('knows',),
            ('xor', DONE, DONE), ('', DONE), (1, DONE), (DONE,), (None,), (True,), ((), DONE), (['not'], DONE),
            (('not',), DONE), ('hears', ('x',), DONE), ('nod', DONE), ('nor', DONE, DONE), ('att', (0,)),
            ('modulos', 'm', 2, 1), ('last', 'a', 'm'), ('made', 'a', 1), ('modulo', 'a', 1), ('done', 'a', 'm'), ('not', nested(DONE, 20)), DONE + DONE, DONE[:2]))

    def test_true_is_not_one_deep_within(self):
        deep = ('done', 'a', True)
        for _ in range(28):
            deep = ('not', deep)
        self.all_are(is_saying, False, (deep, ('and', DONE, ('or', DONE, ('modulo', 'm', 2, False)))))
        states = ((('a', 0), ('m', 0), ('n', 0)), (('n', True),))
        self.all_are(is_machine, False, ((FREE[0], states),))
        self.all_are(is_book, False, ((FREE[0], states),))

    def test_any_value_has_an_answer(self):
        for function in ALL:
            for thing in (*ODD_DEEP, FREE, EITHER, DONE):
                self.assertIn(function(thing), (True, False))
                self.assertIsInstance(function(thing), bool)

    def test_odd_values_are_of_no_greater_kind(self):
        for function in (is_deed, is_machine, is_book, is_saying):
            self.all_are(function, False, ODD_DEEP)
