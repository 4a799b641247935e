"""Promises [19] and [20]: books as texts, written and read."""

from toldall.bookreadings import machine_read
from toldall.booktexts import deed_text, machine_text
from toldall.errors import InvalidText
from tests.cases import BOTH, EITHER, FREE, LOOSE, ODD_DEEP, ONEWAY, SPLIT, Case, some_machines

DEEDS = 'deed a x\ndeed m x,y'

# Texts that write no machine, with the line and the word.
WRONG = (
    ('', 0, 0), (' ', 0, 0), ('\n', 0, 0), ('state -', 0, 0), ('Deed a x\nstate -', 0, 0), ('deeds a x', 0, 0),
    (' deed a x\nstate -', 0, 0), ('\ndeed a x\nstate -', 0, 0), ('deed,a x', 0, 0), ('state\ndeed a x', 0, 0),
    # Words of a line of a deed that are missing, empty, wrong, too many.
    ('deed', 0, 1), ('deed ', 0, 1), ('deed  x\nstate -', 0, 1), ('deed  a x\nstate -', 0, 1), ('deed A x', 0, 1),
    ('deed a1 x', 0, 1), ('deed abcdefghi x', 0, 1), ('deed a,b x', 0, 1), ('deed a:0 x', 0, 1),
    ('deed a', 0, 2), ('deed a ', 0, 2), ('deed a \nstate -', 0, 2), ('deed a  x', 0, 2), ('deed a y,x', 0, 2),
    ('deed a x,x', 0, 2), ('deed a x,', 0, 2), ('deed a ,x', 0, 2), ('deed a x,,y', 0, 2), ('deed a ,', 0, 2),
    ('deed a -', 0, 2), ('deed a X', 0, 2), ('deed a x;y', 0, 2), ('deed a x,y,abcdefghi', 0, 2),
    ('deed a x ', 0, 3), ('deed a x y', 0, 3), ('deed a x,y z z', 0, 3), ('deed a x deed b y', 0, 3),
    ('deed a x  ', 0, 3), ('deed a x,y \nstate -', 0, 3),
    # Names of deeds out of order, and doubled.
    ('deed b x\ndeed a y\nstate -', 1, 1), ('deed a x\ndeed a y\nstate -', 1, 1), ('deed b x\ndeed ab y', 1, 1),
    ('deed a x\ndeed b\ndeed c', 1, 2), ('deed a x\ndeed c y\ndeed b z\nstate -', 2, 1),
    # No line behind those of deeds; later lines that are no states.
    ('deed a x', 1, 0), (DEEDS, 2, 0), ('deed a x\n', 1, 0), ('deed a x\n\nstate -', 1, 0),
    ('deed a x\nState -', 1, 0), ('deed a x\n-', 1, 0), ('deed a x\n a:0', 1, 0), ('deed a x\nstate -\ndeed b y', 2, 0),
    ('deed a x\nstate -\n', 2, 0), ('deed a x\nstate -\n\n', 2, 0), ('deed a x\nstate -\nstate', 2, 1),
    ('deed a x\n state -', 1, 0), ('deed a x\nstate- a:0', 1, 0), ('deed a x\nDeed b y\nstate -', 1, 0),
    # Words of the line of a state.
    ('deed a x\nstate', 1, 1), ('deed a x\nstate ', 1, 1), ('deed a x\nstate  -', 1, 1), ('deed a x\nstate --', 1, 1),
    ('deed a x\nstate - ', 1, 2), ('deed a x\nstate - -', 1, 2), ('deed a x\nstate - a:0', 1, 2),
    ('deed a x\nstate a:0 -', 1, 2), ('deed a x\nstate a:0 ', 1, 2), ('deed a x\nstate a:0  ', 1, 2),
    ('deed a x\nstate a', 1, 1), ('deed a x\nstate a:', 1, 1), ('deed a x\nstate :0', 1, 1),
    ('deed a x\nstate a:0:0', 1, 1), ('deed a x\nstate a:-0', 1, 1), ('deed a x\nstate a:+0', 1, 1),
    ('deed a x\nstate a:00', 1, 1), ('deed a x\nstate a:01\nstate -', 1, 1), ('deed a x\nstate a:0x', 1, 1),
    ('deed a x\nstate a:0_0', 1, 1), ('deed a x\nstate a;0', 1, 1), ('deed a x\nstate b:0', 1, 1),
    ('deed a x\nstate x:0', 1, 1), ('deed a x\nstate aa:0', 1, 1), ('deed a x\nstate a:/', 1, 1),
    ('deed a x\nstate a:1', 1, 1), ('deed a x\nstate a:2\nstate -', 1, 1), ('deed a x\nstate a::0', 1, 1),
    ('deed a x\nstate a:' + '1' * 60, 1, 1), ('deed a x\nstate a:' + '1' * 61, 1, 1),
    ('deed a x\nstate a:' + '0' * 60, 1, 1), ('deed a x\nstate a:' + '0' * 61, 1, 1),
    ('deed a x\nstate a: 0', 1, 1), ('deed a x\nstate a :0', 1, 1), ('deed a x\nstate A:0', 1, 1),
    (DEEDS + '\nstate m:0 a:0', 2, 2), (DEEDS + '\nstate a:0 a:0', 2, 2), (DEEDS + '\nstate m:0 m:0', 2, 2),
    (DEEDS + '\nstate a:0  m:0', 2, 2), (DEEDS + '\nstate a:0 m:0 m:0', 2, 3), (DEEDS + '\nstate a:0 m:0 ', 2, 3),
    (DEEDS + '\nstate a:0 m:1', 2, 2), (DEEDS + '\nstate a:0,m:0', 2, 1), (DEEDS + '\nstate a:0 m', 2, 2),
    (DEEDS + '\nstate -\nstate a:0 m:2', 3, 2), (DEEDS + '\nstate - m:0\nstate', 2, 2),
    # The lines behind those of deeds count, possible or not; the first line that is not possible is told.
    ('deed a x\nstate a:1\nnone', 2, 0), ('deed a x\nstate a:1\n', 2, 0), ('deed a x\nstate a:2\nnone', 1, 1),
    ('deed a\nstate a:9', 0, 2), ('deed a x\ndeed b\nnone', 1, 2),
)


class TextsTest(Case):

    def test_document(self):
        self.same([machine_text(EITHER), machine_read('deed m x,y\nstate m:0')],
                  ['deed a x\ndeed b y\nstate a:1 b:2\nstate -\nstate -', ((('m', ('x', 'y')),), ((('m', 0),),))])
        self.refused(InvalidText, {'line': 1, 'field': 1}, machine_read, 'deed m x\nstate m:1')

    def test_lines_of_deeds(self):
        self.same([deed_text(('a', ('x',))), deed_text(deed=('meet', ('x', 'xy', 'z')))], ['deed a x', 'deed meet x,xy,z'])
        for odd in (*ODD_DEEP, ('a', ()), ('a', ['x']), ['a', ('x',)], ('a', ('y', 'x')), FREE[0], ('A', ('x',))):
            self.unusable('deed', deed_text, odd)

    def test_lines_of_machines(self):
        self.same(machine_text(LOOSE), 'deed a x\ndeed m x,y\ndeed n y,z\nstate a:1 n:0\nstate m:0 n:1\nstate a:2')
        self.same(machine_text(machine=(FREE[0][:1], ((),))), 'deed a x\nstate -')
        for odd in (*ODD_DEEP, (FREE[0], ()), (FREE[0], ((('a', True),), ()))):
            self.unusable('machine', machine_text, odd)

    def test_written_and_read(self):
        chain = (EITHER[0], tuple((('a', k + 1), ('b', 12 - k)) for k in range(12)) + ((),))
        for machine in (FREE, EITHER, SPLIT, ONEWAY, BOTH, LOOSE, chain, *some_machines(31, 60, deeds=4, states=11)):
            self.same(machine_read(machine_text(machine)), machine)
            self.same(machine_text(machine_read(text=machine_text(machine))), machine_text(machine))

    def test_read_and_written(self):
        for text in ('deed a x\nstate -', 'deed a x\nstate a:0', 'deed abcdefgh x,y,z\nstate -\nstate abcdefgh:1',
                     DEEDS + '\nstate m:1\nstate a:0 m:0', 'deed deed state\nstate deed:0', 'deed state a\nstate -'):
            self.same(machine_text(machine_read(text)), text)

    def test_wrong_texts(self):
        for text, line, field in WRONG:
            with self.subTest(text=text):
                self.refused(InvalidText, {'line': line, 'field': field}, machine_read, text)

    def test_every_text_is_refused_or_is_how_its_machine_is_written(self):
        whole = machine_text(LOOSE)
        texts = [whole[:k] for k in range(len(whole))] + [whole[k:] for k in range(1, len(whole))]
        for k in range(len(whole)):
            for sign in ' \n:,-0123axyz':
                texts += [whole[:k] + sign + whole[k + 1:], whole[:k] + sign + whole[k:]]
        read = 0
        for text in texts:
            try:
                machine = machine_read(text)
            except InvalidText:
                continue
            read += 1
            self.same(machine_text(machine), text)
        self.assertTrue(20 < read < len(texts) // 2)

    def test_no_text(self):
        for odd in ODD_DEEP:
            if not isinstance(odd, str):
                self.unusable('text', machine_read, odd)
