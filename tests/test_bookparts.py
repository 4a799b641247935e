"""Promise [14]: the parts of machines, and the order of the errors of parameters by [10]."""

from toldall.bookparts import (are_apart, deed_names, deeds_at, deeds_of, deeds_without, parties_in, parties_of,
                               state_behind)
from tests.cases import EITHER, FREE, LOOSE, ODD_DEEP, SPLIT, Case

WIDE = ((('b', ('y', 'z')), ('c', ('w',)), ('d', ('a', 'y'))), ((('b', 1),), (('c', 0), ('d', 1))))


class BookPartsTest(Case):

    def test_document(self):
        self.same([parties_of(FREE), deeds_without(FREE, ('x',)), are_apart(FREE, 'a', 'n'),
                   state_behind(EITHER, 1, 'b')], [('x', 'y', 'z'), ('n',), True, None])

    def test_parties_and_names(self):
        self.same([parties_of(WIDE), parties_of(SPLIT)], [('a', 'w', 'y', 'z'), ('x', 'y')])
        self.same([deed_names(WIDE), deed_names(SPLIT)], [('b', 'c', 'd'), ('a', 'b')])
        self.same([parties_in(WIDE, name) for name in 'bcd'], [('y', 'z'), ('w',), ('a', 'y')])

    def test_apart(self):
        self.same([[are_apart(FREE, one, two) for two in 'amn'] for one in 'amn'],
                  [[False, False, True], [False, False, False], [True, False, False]])
        self.same([are_apart(WIDE, 'b', 'd'), are_apart(WIDE, 'd', 'c')], [False, True])

    def test_states(self):
        self.same([deeds_at(SPLIT, s) for s in range(5)], [('a', 'b'), ('b',), ('a',), (), ()])
        self.same([deeds_at(LOOSE, s) for s in range(3)], [('a', 'n'), ('m', 'n'), ('a',)])
        self.same([[state_behind(LOOSE, s, name) for name in 'amn'] for s in range(3)],
                  [[1, None, 0], [None, 0, 1], [2, None, None]])

    def test_deeds_of_some_and_of_none(self):
        cases = ((('x',), ('a', 'm'), ('n',)), (('y',), ('m', 'n'), ('a',)), (('z',), ('n',), ('a', 'm')),
                 (('x', 'z'), ('a', 'm', 'n'), ()), (('x', 'y', 'z'), ('a', 'm', 'n'), ()))
        for parties, own, without in cases:
            self.same([deeds_of(FREE, parties), deeds_without(FREE, parties)], [own, without])
        self.same([deeds_of(WIDE, ('a', 'w')), deeds_without(WIDE, ('a', 'w'))], [('c', 'd'), ('b',)])

    def test_arguments_by_name(self):
        self.same([parties_of(machine=EITHER), deed_names(machine=EITHER), parties_in(machine=EITHER, deed='b'),
                   are_apart(machine=EITHER, deed='a', other='b'), deeds_at(machine=EITHER, state=0),
                   state_behind(machine=EITHER, state=0, deed='b'), deeds_of(machine=EITHER, parties=('x',)),
                   deeds_without(machine=EITHER, parties=('x',))],
                  [('x', 'y'), ('a', 'b'), ('y',), True, ('a', 'b'), 2, ('a',), ('b',)])

    def test_no_machine(self):
        for odd in (*ODD_DEEP, (FREE[0], ()), (FREE[0], ((('a', True),), ()))):
            self.unusable('machine', parties_of, odd)
            self.unusable('machine', deed_names, odd)
            self.unusable('machine', parties_in, odd, None)
            self.unusable('machine', are_apart, odd, None, None)
            self.unusable('machine', deeds_at, odd, None)
            self.unusable('machine', state_behind, odd, None, None)
            self.unusable('machine', deeds_of, odd, None)
            self.unusable('machine', deeds_without, odd, None)

    def test_no_deed(self):
        for odd in (*ODD_DEEP, 'b', 'x', 'am', ('a',), ['a']):
            self.unusable('deed', parties_in, FREE, odd)
            self.unusable('deed', are_apart, FREE, odd, 'a')
            self.unusable('deed', are_apart, FREE, odd, odd)
            self.unusable('other', are_apart, FREE, 'a', odd)
            self.unusable('deed', state_behind, FREE, 0, odd)

    def test_no_state(self):
        for odd in ODD_DEEP:
            if odd is False or odd is True or odd != 0:
                self.unusable('state', deeds_at, FREE, odd)
                self.unusable('state', state_behind, FREE, odd, None)
        for odd in (3, 4, -1, -3, '0', (0,), True, False, 10 ** 59):
            self.unusable('state', deeds_at, EITHER, odd)
            self.unusable('state', state_behind, EITHER, odd, 'a')
        self.same([deeds_at(EITHER, 2), state_behind(EITHER, 2, 'a')], [(), None])

    def test_no_parties(self):
        for odd in (*ODD_DEEP, ('w',), ('x', 'zz'), ('a',), ('y', 'x'), ('x', 'x'), ['x'], 'x', ('x', ['y']), ('x', 1)):
            self.unusable('parties', deeds_of, FREE, odd)
            self.unusable('parties', deeds_without, FREE, odd)
