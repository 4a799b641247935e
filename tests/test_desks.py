"""Promises [76] and [77]: desks, at which strings are said to a house."""

import random

from toldall.bookclasses import Book
from toldall.booktexts import machine_text
from toldall.desks import Desk
from toldall.errors import InvalidEvent, InvalidRow, NothingToUndo, NotUsable
from toldall.houselogs import replayed
from toldall.houses import House
from toldall.housetexts import event_line, log_lines
from toldall.sayingtexts import saying_text
from tests.cases import EITHER, FREE, ODD_DEEP, ONEWAY, SPLIT, Case
from tests.housing import EVENTS, SlowHouse, books_of_houses, happened, some_event, some_sayings
from tests.sayings import DONE, HEARD, chain, parties_of_book, saying_of_depth, slow_sets, slow_text
from tests.test_bookchanges import NO_BOOKS
from tests.told import names_in

NO_STRINGS = [odd for odd in ODD_DEEP if not isinstance(odd, str)]

# Strings that a desk does not know.
NO_ROWS = ('', ' ', 'do', 'do ', 'do A', 'do a b', ' do a', 'do a ', 'Do a', 'do\na', 'do a\n', '\n', 'undo ', ' undo', 'undo a',
           'undo\n', 'bars', 'bars ', 'bars undo', 'bars log', 'bars do', 'bars do A', 'bars  do a', 'bars do a ', 'bars bars do a',
           'bars do a\n', 'bars run', 'log ', 'log a', 'Log', 'table a', 'book 1', 'run ', 'can do', 'watched ', 'listeners a',
           'guards a', 'news lost', 'lost ', 'tally 1', 'of', 'of ', 'of A', 'of a b', 'of  a', 'of a@', 'knowers', 'knowers ',
           'knowers a', 'knowers done(a,0)', 'knowers done(a,1) ', 'knowers done(a,1) done(a,1)', 'holds', 'holds x done(a,1)',
           'holds ' + slow_text(chain('not', 30)), 'together x', 'together done(a,1)', 'together x done(a,1) ', 'together  done(a,1)',
           'together y+x done(a,1)', 'together x+x done(a,1)', 'together x+ done(a,1)', 'together x,y done(a,1)',
           'together x y done(a,1)', 'together x done(a)', 'past', 'past ', 'past x+', 'past y+x', 'past x y', 'past X', 'past +',
           'past x+x', 'past x,y', 'since', 'since ', 'since 1', 'since a b', 'since x+y', 'house', 'house 2', 'house 2\ndeed a x',
           'house 2\ndeed a x\nstate -\n', 'house 2\ndeed a x\nstate -\ndo a', 'house 0', 'house 2\nstate -\ndeed a x', 'counts', 'help',
           'who a', 'of a\n', 'news\n', 'house 2 / deed a x / state -', 'listen', 'watch', 'free', 'mark', 'guard a', '-', 'ok')


def said(things, between=' '):
    return between.join(things) if things else '-'


class DeskTest(Case):

    def all_said(self, desk, *rows):
        return [desk.say(row) for row in rows]

    def test_document(self):
        desk = Desk(FREE)
        self.same([desk.say(row) for row in ('watch done(a,1)', 'do a', 'do m', 'news', 'past z', 'holds knows(x+y,done(a,1))', 'log')],
                  ['0', '1', '2', 'done(a,1)@y', '-', 'yes', 'watch done(a,1) / do a / do m'])

    def test_at_first(self):
        desk = Desk(book=EITHER)
        self.same(desk.counts(), (0, 0))
        self.same(self.all_said(desk, 'log', 'table', 'book', 'run', 'can', 'watched', 'listeners', 'guards', 'news', 'lost', 'tally'),
                  ['-', 'x         0  0  0 / y         0  0  0', 'deed a x / deed b y / state a:1 b:2 / state - / state -',
                   '-', 'a b', '-', '-', '-', '-', '-', '-'])
        self.same(self.all_said(desk, 'of a', 'past x+y', 'knowers done(a,1)', 'holds done(a,1)', 'together y not(done(b,1))',
                                'bars do a'), ['-', '-', '-', 'no', 'yes', '-'])
        self.same(desk.counts(), (17, 17))

    def test_each_string(self):
        desk = Desk(FREE)
        for row, answer in (
                ('mark start', '0'), ('watch knows(z,done(a,1))', '0'), ('watch done(a,1)', '0'), ('guard n done(a,1)', '0'),
                ('can', 'a m'), ('bars do n', 'unknowing'), ('bars do b', 'deed'), ('bars listen a w', 'party'), ('bars free a', 'same'),
                ('bars watch at(7)', 'saying'), ('bars mark start', 'twice'), ('bars mark other', '-'), ('do a', '1'), ('news', 'done(a,1)@x'),
                ('mark heard', '1'), ('do m', '2'), ('news', 'done(a,1)@y'), ('lost', '-'), ('can', 'a m n'), ('do n', '3'),
                ('news', 'done(a,1)@z knows(z,done(a,1))@y+z'), ('tally', 'a@1 m@1 n@1'), ('run', 'a m n'), ('past y', 'a m n'),
                ('past x', 'a m'), ('past x+z', 'a m n'), ('since start', 'a m n'), ('since heard', 'm n'), ('of n', 'done(a,1)'),
                ('of a', '-'), ('guards', 'n@done(a,1)'), ('watched', 'done(a,1) knows(z,done(a,1))'), ('listen a z', '3'),
                ('listen m z', '3'), ('listeners', 'a@z m@z'), ('knowers done(a,1)', 'x y z'), ('knowers knows(x,done(n,1))', '-'),
                ('holds at(0)', 'yes'), ('holds not(done(a,1))', 'no'), ('together x done(n,1)', 'no'), ('together x+y done(n,1)', 'yes'),
                ('table', 'x         2  2  2 / y         2  3  2 / z         3  3  2'),
                ('book', 'deed a x,z / deed m x,y,z / deed n y,z / state a:0 m:0 n:0'),
                ('log', 'mark start / watch knows(z,done(a,1)) / watch done(a,1) / guard n done(a,1) / do a / mark heard / do m / do n'
                        ' / listen a z / listen m z'),
                ('undo', 'listen m z'), ('listeners', 'a@z'), ('undo', 'listen a z'), ('undo', 'do n'), ('run', 'a m'), ('free n', '2'),
                ('guards', '-'), ('drop done(a,1)', '2'), ('watched', 'knows(z,done(a,1))'), ('bars drop done(a,1)', 'same'),
                ('undo', 'drop done(a,1)'), ('undo', 'free n'), ('of n', 'done(a,1)')):
            self.same(desk.say(row), answer)

    def test_lost(self):
        desk = Desk(EITHER)
        self.same(self.all_said(desk, 'watch not(done(b,1))', 'watch not(done(a,1))', 'do b', 'lost', 'news'),
                  ['0', '0', '1', 'not(done(b,1))@y', 'not(done(a,1))@y'])

    def test_bars_where_the_book_bars(self):
        desk = Desk(EITHER)
        self.same(self.all_said(desk, 'do a', 'bars do b', 'bars do a', 'can'), ['1', 'barred', 'barred', '-'])

    def test_against_houses(self):
        dice = random.Random(371)
        for book in books_of_houses(372):
            desk, house = Desk(book), House(book)
            for event in happened(dice.random(), book).events:
                self.same(desk.say(event_line(event)), str(house.happen(event)))
            rows = [('log', said([event_line(event) for event in house.log()[1:]], ' / ')), ('table', ' / '.join(house.table())),
                    ('book', machine_text(house.book_now).replace('\n', ' / ')), ('run', said(house.run_now)),
                    ('can', said(house.can_do())), ('watched', said([slow_text(each) for each in house.watched_now])),
                    ('listeners', said([f'{deed}@{party}' for deed, party in house.listeners_now])),
                    ('guards', said([f'{deed}@{slow_text(each)}' for deed, each in house.guards_now])),
                    ('news', said([f'{slow_text(each)}@{"+".join(own)}' for each, own in house.news()])),
                    ('lost', said([f'{slow_text(each)}@{"+".join(own)}' for each, own in house.news(lost=True)])),
                    ('tally', said([f'{deed}@{many}' for deed, many in house.tally()]))]
            rows += [(f'of {name}', '-' if house[name] is None else slow_text(house[name])) for name in names_in(book)]
            rows += [(f'past {"+".join(own)}', said(house.past(own))) for own in slow_sets(book)]
            rows += [(f'since {name}', said(house.done_since(name))) for name in 'pqrst' if ('mark', name) in house.log()]
            for depth in (0, 1):
                saying = saying_of_depth(dice, book, depth, 3)
                own, text = dice.choice(slow_sets(book)), saying_text(saying)
                rows += [(f'knowers {text}', said(house.knowers(saying))), (f'holds {text}', 'yes' if house.holds(saying) else 'no'),
                         (f'together {"+".join(own)} {text}', 'yes' if house.together(own, saying) else 'no')]
            saying = some_sayings(dice, book)
            for event in [some_event(dice, book, saying) for _ in range(20)]:
                rows.append((f'bars {event_line(event)}', house.barred(event) or '-'))
            for row, answer in rows:
                self.same(desk.say(row), answer)
            events = house.log()[1:]
            self.same([desk.say('undo') for _ in events], [event_line(event) for event in events[::-1]])
            many = 2 * len(events) + len(rows)
            self.same([desk.say('log'), desk.counts()], ['-', (many + 1, many + 1)])

    def test_a_new_house(self):
        desk = Desk(FREE)
        self.all_said(desk, 'watch done(a,1)', 'do a', 'mark one')
        self.same(desk.say('\n'.join(log_lines((('house', EITHER),)))), 'ok')
        self.same(self.all_said(desk, 'log', 'can', 'watched', 'mark one', 'do b', 'can', 'past y'), ['-', 'a b', '-', '0', '1', '-', 'b'])
        self.same(desk.say('house 2\ndeed a x\nstate a:0'), 'ok')
        self.same([desk.say('book'), desk.say('log'), desk.counts()], ['deed a x / state a:0', '-', (14, 14)])

    def test_lines_of_logs_that_are_not_known(self):
        desk = Desk(FREE)
        desk.say('do a')
        for machine in (SPLIT, ONEWAY):
            text = machine_text(machine)
            self.unknown(desk, f'house {text.count(chr(10)) + 1}\n{text}')
        for log in ((('house', EITHER), ('do', 'a')), (('house', FREE), *EVENTS)):
            self.unknown(desk, '\n'.join(log_lines(log)))
        lines = '\n'.join(log_lines((('house', EITHER),)))
        for row in (lines + '\n', '\n' + lines, lines.replace('5', '4'), lines.replace('5', '6'), lines.replace('5', '05'), lines + ' ',
                    lines.replace('\n', ' / '), 'bars ' + lines):
            self.unknown(desk, row)
        self.same(self.all_said(desk, 'log', 'book'), ['do a', machine_text(FREE).replace('\n', ' / ')])

    def unknown(self, desk, row):
        before = desk.counts()[0]
        self.refused(InvalidRow, {'row': row}, desk.say, row)
        self.same(desk.counts(), (before + 1, before + 1))

    def test_rows_that_are_not_known(self):
        desk = Desk(FREE)
        self.all_said(desk, 'do a', 'watch done(a,1)')
        for row in (*NO_ROWS, *NO_STRINGS, ['do a'], ('do', 'a'), Book(*FREE), desk, FREE, EVENTS[0]):
            self.unknown(desk, row)
        for row in NO_STRINGS:
            self.refused(InvalidRow, {'row': row}, desk.say, row=row)
        self.same(desk.say('log'), 'do a / watch done(a,1)')

    def test_errors_of_the_house(self):
        desk = Desk(EITHER)
        self.all_said(desk, 'do a', 'watch done(a,1)', 'mark one')
        for row, event, reason in (
                ('do b', ('do', 'b'), 'barred'), ('do zz', ('do', 'zz'), 'deed'), ('listen a w', ('listen', 'a', 'w'), 'party'),
                ('watch done(a,1)', ('watch', DONE), 'same'), ('watch knows(z,done(a,1))', ('watch', HEARD), 'saying'),
                ('mark one', ('mark', 'one'), 'twice'), ('free a', ('free', 'a'), 'same')):
            self.refused(InvalidEvent, {'event': event, 'reason': reason}, desk.say, row)
        for row, word in (('of m', 'deed'), ('of x', 'deed'), ('knowers done(m,1)', 'saying'), ('holds at(3)', 'saying'),
                          ('together x at(3)', 'saying'), ('together z done(a,1)', 'parties'), ('together z at(3)', 'parties'),
                          ('past z', 'parties'), ('past a+b', 'parties'), ('since a', 'name'), ('since two', 'name')):
            self.unusable(word, desk.say, row)
        self.same(desk.counts(), (21, 21))
        self.same(self.all_said(desk, 'undo', 'undo', 'undo'), ['mark one', 'watch done(a,1)', 'do a'])
        for _ in range(2):
            self.refused(NothingToUndo, {'steps': 0}, desk.say, 'undo')
        self.same([desk.say('log'), desk.counts()], ['-', (27, 27)])

    def test_full(self):
        desk = Desk(FREE)
        self.same(self.all_said(desk, *['do a'] * 40)[-1], '40')
        self.refused(InvalidEvent, {'event': ('do', 'm'), 'reason': 'full'}, desk.say, 'do m')
        self.same(self.all_said(desk, 'bars do m', 'bars do zz', 'can', 'undo', 'do m', 'run'),
                  ['full', 'full', 'a m n', 'do a', '40', ' '.join(['a'] * 39 + ['m'])])

    def test_logs_that_are_said(self):
        dice = random.Random(373)
        for book in books_of_houses(374, 1):
            desk = Desk(EITHER)
            lines = log_lines((('house', book), *happened(dice.random(), book).events))
            many = int(lines[0].split(' ')[1]) + 1
            self.same(desk.say('\n'.join(lines[:many])), 'ok')
            self.all_said(desk, *lines[many:])
            self.same(desk.say('log'), said(lines[many:], ' / '))

    def test_two_desks(self):
        one, other = Desk(FREE), Desk(FREE)
        self.all_said(one, 'do a', 'watch done(a,1)')
        self.same(self.all_said(other, 'log', 'do m'), ['-', '1'])
        other.say('house 2\ndeed a x\nstate -')
        self.same([one.say('log'), other.say('can'), one.counts(), other.counts()],
                  ['do a / watch done(a,1)', '-', (3, 3), (4, 4)])

    def test_what_makes_no_desk(self):
        for odd in (*NO_BOOKS, Book(*FREE), House(FREE)):
            self.unusable('book', Desk, odd)
            self.unusable('book', Desk, book=odd)

    def test_all_parties_and_deeds(self):
        for book in books_of_houses(375, 1):
            desk, slow = Desk(book), SlowHouse(book)
            self.same([desk.say('can'), desk.say('table').count(' / ')], [said(slow.can()), len(parties_of_book(book)) - 1])
            self.same(replayed((('house', book),)).table(), desk.say('table').split(' / '))
        with self.assertRaises(NotUsable):
            Desk(SPLIT)
