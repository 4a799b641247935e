"""Promises [72] to [75]: logs of houses, their lines, and how these are read."""

import random

from toldall.bookclasses import Book
from toldall.booktexts import machine_text
from toldall.errors import InvalidEvent, InvalidText
from toldall.houselogs import is_log, replayed
from toldall.housereadings import read_event, read_log
from toldall.houses import House
from toldall.housetexts import event_line, log_lines
from tests.cases import EITHER, FREE, ODD_DEEP, ONEWAY, SPLIT, Case
from tests.housing import EVENTS, NO_EVENTS, THREE, books_of_houses, happened, state_of, told_by
from tests.sayings import DONE, HEARD, chain, slow_text
from tests.test_bookchanges import NO_BOOKS

LOG = (('house', EITHER), ('do', 'a'))
LINES = ['house 5', 'deed a x', 'deed b y', 'state a:1 b:2', 'state -', 'state -', 'do a']
# Possible by form alone.
WILD = (('house', FREE), *EVENTS, ('do', 'zz'), ('drop', DONE), ('mark', 'x'))


def slow_line(event):
    return ' '.join([each if isinstance(each, str) else slow_text(each) for each in event])


def logs(seed):
    dice = random.Random(seed)
    return [(('house', book), *happened(dice.random(), book).events) for book in books_of_houses(seed + 1)]


class LogTest(Case):

    def test_logs_by_form(self):
        for log in (LOG, WILD, (('house', FREE),), (('house', FREE), *[('do', 'a')] * 60), *logs(351)):
            self.same([is_log(log), is_log(thing=log)], [True, True])
            self.same([is_log(list(log)), is_log((list(log[0]), *log[1:])), is_log(log[1:]), is_log((*log, ())), is_log((log,))],
                      [False] * 5)

    def test_what_is_no_log(self):
        for odd in (*ODD_DEEP, (), FREE, ('house', FREE), (('House', FREE),), (('house',),), (('house', FREE, ()),), House(FREE),
                    ((FREE, 'house'),), (('do', 'a'),), (('house', Book(*FREE)),), ((True, FREE),), LOG[::-1], (LOG[0], LOG[0])):
            self.same(is_log(odd), False)
            self.unusable('log', replayed, odd)
            self.unusable('log', log_lines, odd)
        for odd in NO_BOOKS:
            self.same([is_log((('house', odd),)), is_log((('house', odd), ('do', 'a')))], [False, False])
        for odd in NO_EVENTS:
            self.same([is_log((LOG[0], odd)), is_log((*LOG, odd)), is_log((odd, *LOG))], [False] * 3)
            self.unusable('log', replayed, log=(LOG[0], odd))

    def test_replayed(self):
        for log in logs(352):
            house = replayed(log)
            other = House(log[0][1])
            other.do_all(*log[1:])
            self.same([house.__class__, house.counts(), house.log()], [House, (0, 0), log])
            self.same([house == other, state_of(house), told_by(house)], [True, state_of(other), told_by(other)])
            self.same(replayed(log=other.log()) == other, True)
            if len(log) > 1:
                self.same([house.undo(), house.counts(), house == other], [log[-1], (1, 1), False])

    def test_replayed_twice(self):
        one, other = replayed(LOG), replayed(LOG)
        self.assertIsNot(one, other)
        one.mark('one')
        self.same([other.log(), one.mark_now, one.counts(), other.counts()], [LOG, 'one', (1, 1), (0, 0)])

    def test_logs_that_are_not_possible(self):
        for log, k, reason in (
                ((LOG[0], ('do', 'a'), ('do', 'b'), ('do', 'zz')), 2, 'barred'), (WILD, 2, 'deed'),
                ((LOG[0], ('watch', HEARD), ('do', 'zz')), 1, 'saying'), ((LOG[0], ('mark', 'x'), ('mark', 'x')), 2, 'twice'),
                ((LOG[0], ('guard', 'b', DONE), ('do', 'b')), 2, 'unknowing'), ((LOG[0], ('drop', DONE)), 1, 'same'),
                ((('house', FREE), *[('do', 'a')] * 40, ('mark', 'x'), ('do', 'zz')), 41, 'full')):
            self.refused(InvalidEvent, {'event': log[k], 'reason': reason}, replayed, log)
            self.same(is_log(log), True)

    def test_replayed_houses_are_equal(self):
        house = House(THREE)
        house.do_all(('listen', 'a', 'y'), ('guard', 'n', ('latest', 'a', 'b')), ('do', 'a'), ('watch', HEARD), ('do', 'n'))
        house.undo()
        with house.trial():
            house.do_all(('do', 'm'), ('mark', 'one'))
        self.same([replayed(house.log()) == house, replayed(house.log()).counts(), house.counts()], [True, (0, 0), (3, 3)])


class LineTest(Case):

    def test_document(self):
        self.same([read_event('guard n knows(z,done(a,1))') == ('guard', 'n', HEARD), log_lines((('house', EITHER), ('do', 'a')))],
                  [True, ['house 5', 'deed a x', 'deed b y', 'state a:1 b:2', 'state -', 'state -', 'do a']])
        self.refused(InvalidText, {'line': 2, 'field': 0}, read_log, ['house 2', 'deed a x'])

    def test_written_and_read(self):
        for event in EVENTS:
            self.same([event_line(event), event_line(event=event), read_event(slow_line(event))], [slow_line(event)] * 2 + [event])
            self.same([read_event(text=event_line(event)), event_line(read_event(slow_line(event)))], [event, slow_line(event)])
        for log in (LOG, WILD, *logs(353)):
            text = machine_text(log[0][1]).split('\n')
            lines = [f'house {len(text)}', *text, *[slow_line(event) for event in log[1:]]]
            self.same([log_lines(log), log_lines(log=log), read_log(lines), read_log(lines=lines)], [lines, lines, log, log])
            self.same(log_lines(log).__class__, list)

    def test_long_sayings(self):
        big = ('and', ('modulo', 'abcdefgh', 10 ** 59 + 1, 10 ** 59), chain('not', 36, ('at', (0, 10 ** 58))))
        for event in (('watch', big), ('drop', big), ('guard', 'a', big)):
            self.same(event_line(event), slow_line(event))
        small = ('and', ('modulo', 'abcdefgh', 10 ** 59 + 1, 10 ** 59), chain('not', 28, ('at', (0, 10 ** 58))))
        wide = DONE
        for _ in range(19):
            wide = ('or', DONE, wide)
        for saying in (small, wide):
            event = ('guard', 'a', saying)
            self.same([read_event(event_line(event)), read_log(['house 2', 'deed a x', 'state -', slow_line(event)])[1]],
                      [event, event])

    def test_values_of_other_kinds(self):
        for odd in (*NO_EVENTS, House(FREE), Book(*FREE)):
            self.unusable('event', event_line, odd)
        for odd in (*ODD_DEEP, LOG, ['do a'], House(FREE)):
            if not isinstance(odd, str):
                self.unusable('text', read_event, odd)
        for odd in (*ODD_DEEP, tuple(LINES), '\n'.join(LINES), [*LINES, None], [*LINES, ['do a']], [True], LOG, House(FREE),
                    ['house 5', 'deed a x\ndeed b y'], [*LINES, 'do a\n'], ['\n'], {'house 1': 1}):
            if odd != [] and odd != ['a'] and odd != ['x']:
                self.unusable('lines', read_log, odd)

    def wrong_event(self, text, field):
        self.refused(InvalidText, {'line': 0, 'field': field}, read_event, text)
        # The same as a line of a log, behind others.
        if '\n' not in text:
            lines = ['house 2', 'deed a x', 'state -', 'do a', text]
            self.refused(InvalidText, {'line': 4, 'field': field}, read_log, lines)
            self.refused(InvalidText, {'line': 4, 'field': field}, read_log, [*lines, 'more', ''])

    def test_lines_that_write_no_event(self):
        for text, field in (
                ('', 0), (' ', 0), ('undo', 0), ('Do a', 0), (' do a', 0), ('do', 1), ('do ', 1), ('do  a', 1), ('do A', 1),
                ('do abcdefghi', 1), ('do a ', 2), ('do a b', 2), ('do A b', 1), ('listen', 1), ('listen a', 2), ('listen a ', 2),
                ('listen a X', 2), ('listen 1', 1), ('listen a x y', 3), ('listen a  x', 2), ('watch', 1), ('watch a', 1),
                ('watch done(a,0)', 1), ('watch done(a,01)', 1), ('watch done(a, 1)', 1), ('watch done(a,1) ', 2), ('watch done(a,1)x', 1),
                ('drop', 1), ('drop done(a,1) done(a,1)', 2), ('drop not(done(a,1)', 1), ('guard', 1), ('guard a', 2), ('guard a ', 2),
                ('guard A done(a,1)', 1), ('guard A', 1), ('guard a done(a)', 2), ('guard a done(a,1) x', 3), ('guard done(a,1) a', 1),
                ('free', 1), ('free a b', 2), ('free a1', 1), ('mark', 1), ('mark x_', 1), ('mark x y', 2), ('house 2', 0),
                ('watch ' + slow_text(chain('not', 30)), 1), ('watch done(a,1' + '0' * 60 + ')', 1), ('bars do a', 0), ('log', 0)):
            self.wrong_event(text, field)

    def test_every_word_left_out_changed_and_added(self):
        for event in EVENTS:
            words = slow_line(event).split(' ')
            for k in range(len(words)):
                self.wrong_event(' '.join(words[:k]), min(k, 1) * k)
                for odd in ('', 'X', '()', 'do1', '0', '-', 'A b'):
                    self.wrong_event(' '.join([*words[:k], odd, *words[k + 1:]]), k)
                    self.wrong_event(' '.join([*words[:k], odd, *words[k:]]), k)
            for more in ('', 'a', 'done(a,1)', '-'):
                self.wrong_event(' '.join([*words, more]), len(words))

    def test_newlines(self):
        for text, field in (('do\na', 0), ('\ndo a', 0), ('do a\n', 1), ('do \na', 1), ('do a \n', 2), ('listen a\n x', 1),
                            ('watch done(a,\n1)', 1), ('watch done(a,1)\n', 1), ('do a\ndo a', 1), ('\n', 0), ('mark x\ny', 1)):
            self.wrong_event(text, field)


class ReadLogTest(Case):

    def wrong(self, lines, line, field):
        self.refused(InvalidText, {'line': line, 'field': field}, read_log, lines)
        self.refused(InvalidText, {'line': line, 'field': field}, read_log, lines=list(lines))

    def test_first_lines(self):
        rest = LINES[1:]
        for first, field in (
                ('', 0), (' ', 0), ('House 5', 0), ('house', 1), ('house ', 1), ('house  5', 1), ('house 05', 1), ('house x', 1),
                ('house -5', 1), ('house +5', 1), ('house 5 ', 2), ('house 5 5', 2), ('house 5x', 1), ('do a', 0), (' house 5', 0),
                ('house x 5', 1), ('house 1' + '0' * 60, 1), ('house 00', 1), ('house five ', 1), ('hous', 0), ('house 5 x', 2)):
            self.wrong([first, *rest], 0, field)
            self.wrong([first], 0, field)
        self.wrong([], 0, 0)
        self.wrong([''], 0, 0)
        self.wrong(['', ''], 0, 0)

    def test_fewer_lines_than_told(self):
        self.wrong(['house 2', 'deed a x'], 2, 0)
        for many in (7, 10, 10 ** 59, 10 ** 60 - 1):
            self.wrong([f'house {many}', *LINES[1:]], 7, 0)
        self.wrong(['house 5'], 1, 0)
        self.wrong(['house 5', 'bad'], 2, 0)
        self.wrong(['house 6', *LINES[1:6]], 6, 0)
        # A line that is no line of a book.
        self.wrong(['house 6', *LINES[1:]], 6, 0)

    def test_no_lines_of_the_book(self):
        self.wrong(['house 0'], 1, 0)
        self.wrong(['house 0', *LINES[1:]], 1, 0)
        self.wrong(['house 0', 'do a'], 1, 0)

    def test_lines_of_no_machine(self):
        for lines, line, field in (
                (['state -'], 1, 0), (['deed a x'], 2, 0), (['deed a x', 'deed b y'], 3, 0), (['deed a x', 'state a:1'], 2, 1),
                (['deed a', 'state -'], 1, 2), (['deed a x ', 'state -'], 1, 3), (['', 'state -'], 1, 0), (['deed a x', ''], 2, 0),
                (['deed a x', 'state'], 2, 1), (['deed a x', 'state - '], 2, 2), (['deed b x', 'deed a x', 'state -'], 2, 1),
                (['deed a x,', 'state -'], 1, 2), (['deed a x', 'do a', 'state -'], 2, 0)):
            self.wrong([f'house {len(lines)}', *lines], line, field)
            self.wrong([f'house {len(lines)}', *lines, 'bad', ''], line, field)

    def test_machines_that_are_no_books(self):
        for machine in (SPLIT, ONEWAY):
            text = machine_text(machine).split('\n')
            self.wrong([f'house {len(text)}', *text], 1, 0)
            self.wrong([f'house {len(text)}', *text, 'bad'], 1, 0)

    def test_lines_of_events(self):
        self.same(read_log(LINES), LOG)
        self.same(read_log(LINES[:6]), LOG[:1])
        for k in range(1, 4):
            lines = [*LINES, *['mark x'] * k]
            self.wrong([*lines, ''], 6 + k + 1, 0)
            self.wrong([*lines, 'do', 'bad'], 6 + k + 1, 1)
            self.wrong([*lines, 'state -'], 6 + k + 1, 0)
            self.wrong([*lines, 'house 5'], 6 + k + 1, 0)
        self.wrong([*LINES, '', 'do'], 7, 0)
        # A line of the book that is told to be one of the events.
        self.wrong(['house 4', *LINES[1:]], 3, 2)
        self.wrong(['house 2', *LINES[1:]], 3, 0)

    def test_each_word_of_a_log_changed(self):
        dice = random.Random(361)
        told = {}
        for log in (LOG, *logs(362)[:6]):
            lines = log_lines(log)
            for _ in range(60):
                at = dice.randrange(len(lines))
                words = lines[at].split(' ')
                k = dice.randrange(len(words) + 1)
                changed = [*words[:k], dice.choice(('', 'X', '(', '0x')), *words[k + dice.randrange(2):]]
                thing = [*lines[:at], ' '.join(changed), *lines[at + 1:]]
                told[at == 0] = told.get(at == 0, 0) + 1
                self.wrong(thing, at, k)
        self.assertTrue(min(told.values()) > 10, told)

    def test_nothing_changes(self):
        lines = list(LINES)
        read_log(lines)
        self.same(lines, LINES)
        lines = []
        self.refused(InvalidText, {'line': 0, 'field': 0}, read_log, lines)
        self.same(lines, [])
