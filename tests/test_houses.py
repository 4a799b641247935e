"""Promises [65] to [71]: live houses."""

import random

from toldall.bookclasses import Book
from toldall.errors import Broken, InvalidEvent, NothingToUndo, NotUsable
from toldall.guards import guarded_book
from toldall.holding import holds_at, twin_of, who_know
from toldall.houses import House
from toldall.pasts import looks_alike, past_of
from toldall.runs import is_run
from toldall.walkers import Walker
from tests.cases import EITHER, FREE, LOOSE, ODD_DEEP, Case
from tests.housing import (NO_EVENTS, THREE, SlowHouse, books_of_houses, happened, some_event, some_sayings, state_of,
                           told_by)
from tests.sayings import DONE, HEARD, NO_SAYINGS, saying_of_depth, slow_sets
from tests.test_bookchanges import NO_BOOKS
from tests.test_pasts import NO_PARTIES

# Of a book in which x and y bar each other: that b was not done, which y knows until it does it.
UNDONE = ('not', ('done', 'b', 1))


class Stop(Exception):
    pass


def house_behind(book, *events):
    house = House(book)
    for event in events:
        house.happen(event)
    return house


class HouseCase(Case):

    def impossible(self, event, reason, function, *args, **more):
        self.refused(InvalidEvent, {'event': event, 'reason': reason}, function, *args, **more)


class HouseTest(HouseCase):

    def test_document(self):
        house = House(FREE)
        self.same([house.watch(('done', 'a', 1)), house.do_deed('a'), house.do_deed('m'), house.news(), house.knowers(HEARD)],
                  [0, 1, 2, ((('done', 'a', 1), ('y',)),), ()])
        self.same([house.barred(('listen', 'a', 'x')), house.listen('a', 'z'), house.book_now[0][0], house.knowers(HEARD),
                   house.undo()], ['same', 2, ('a', ('x', 'z')), ('x', 'y', 'z'), ('listen', 'a', 'z')])
        house = House(FREE)
        self.same([house.happen(('guard', 'n', ('done', 'a', 1))), house.can_do(), house.barred(('do', 'n'))],
                  [0, ('a', 'm'), 'unknowing'])
        self.same([house.do_all(('do', 'a'), ('do', 'm')), house.can_do(), house['n'], house.table()],
                  [2, ('a', 'm', 'n'), ('done', 'a', 1), ['x         2  2  0', 'y         1  2  0', 'z         0  0  0']])

    def test_at_first(self):
        for book in books_of_houses(311):
            house = House(book=book)
            self.same(state_of(house), [(), book, (), (), (), None, (('house', book),), 0, ()])
            self.same([house.counts(), house.news(), house.news(lost=True)], [(0, 0), (), ()])
            self.same(state_of(house), SlowHouse(book).state())

    def test_what_makes_no_house(self):
        for odd in (*NO_BOOKS, Book(*FREE), House(FREE)):
            self.unusable('book', House, odd)
            self.unusable('book', House, book=odd)

    def test_each_way_to_let_an_event_happen(self):
        events = (('watch', DONE), ('guard', 'm', DONE), ('do', 'a'), ('listen', 'a', 'y'), ('mark', 'one'), ('do', 'm'),
                  ('drop', DONE), ('free', 'm'))
        wanted = house_behind(FREE, *events)
        house = House(FREE)
        self.same(house.watch(saying=DONE), 0)
        house['m'] = DONE
        self.same([house.do_deed(deed='a'), house.listen(party='y', deed='a'), house.mark(name='one'), house.do_deed('m'),
                   house.drop(saying=DONE)], [1, 1, 1, 2, 2])
        house['m'] = None
        self.same([house == wanted, house.log()[1:], house.counts()], [True, events, (8, 8)])
        house, kept = House(FREE), None
        kept = house
        for event in events:
            house += event
        self.assertIs(house, kept)
        self.same([house == wanted, state_of(house), house.counts()], [True, state_of(wanted), (8, 8)])
        house = House(FREE)
        house.mark_now = 'one'
        self.same([house.mark_now, house.log()[1:], house.counts()], ['one', (('mark', 'one'),), (1, 1)])
        self.same([house.happen(event=('do', 'a')), house.happen(('mark', 'two')), house.mark_now], [1, 1, 'two'])

    def test_against_the_slow_house(self):
        dice = random.Random(312)
        for book in books_of_houses(313):
            slow, house = SlowHouse(book), House(book)
            for event in happened(dice.random(), book).events:
                slow.events.append(event)
                self.same(self.somehow(dice, house, event), len(slow.run()))
                self.same(state_of(house), slow.state())
            self.same(told_by(house), slow.told())
            self.same(house.counts(), (len(slow.events), len(slow.events)))

    def somehow(self, dice, house, event):
        """Let an event happen in one of the ways there are, and return how many deeds are done."""
        word, way = event[0], dice.randrange(3)
        own = {'do': house.do_deed, 'listen': house.listen, 'watch': house.watch, 'drop': house.drop, 'mark': house.mark}
        if way == 0:
            return house.happen(event)
        if way == 1 and word in own:
            return own[word](*event[1:])
        if word in ('guard', 'free'):
            house[event[1]] = event[2] if word == 'guard' else None
        elif word == 'mark':
            house.mark_now = event[1]
        else:
            house += event
        return len(house)

    def test_refused_events_change_nothing_but_counts(self):
        house = house_behind(EITHER, ('watch', DONE), ('guard', 'b', DONE), ('mark', 'one'), ('do', 'a'))
        before, counts = state_of(house), house.counts()[0]
        for call, event, reason in (
                (lambda: house.happen(None), None, 'shape'), (lambda: house.do_deed('b'), ('do', 'b'), 'barred'),
                (lambda: house.do_deed(['a']), ('do', ['a']), 'shape'), (lambda: house.do_deed('zz'), ('do', 'zz'), 'deed'),
                (lambda: house.listen('a', 'w'), ('listen', 'a', 'w'), 'party'),
                (lambda: house.listen(1, None), ('listen', 1, None), 'shape'),
                (lambda: house.watch(DONE), ('watch', DONE), 'same'), (lambda: house.watch(HEARD), ('watch', HEARD), 'saying'),
                (lambda: house.watch(0), ('watch', 0), 'shape'), (lambda: house.drop(HEARD), ('drop', HEARD), 'same'),
                (lambda: house.drop(()), ('drop', ()), 'shape'), (lambda: house.mark('one'), ('mark', 'one'), 'twice'),
                (lambda: house.mark(None), ('mark', None), 'shape')):
            self.impossible(event, reason, call)
            counts += 1
            self.same([state_of(house), house.counts()], [before, (counts, counts)])

    def test_refused_signs_change_nothing_but_counts(self):
        house = house_behind(EITHER, ('watch', DONE), ('guard', 'b', DONE), ('mark', 'one'), ('do', 'a'))
        before, counts = state_of(house), house.counts()[0]

        def put(at, worth):
            house[at] = worth

        def name(value):
            house.mark_now = value

        def add(event):
            nonlocal house
            house += event

        for function, args, event, reason in (
                (put, ('b', DONE), ('guard', 'b', DONE), 'same'), (put, ('a', None), ('free', 'a'), 'same'),
                (put, ('zz', None), ('free', 'zz'), 'deed'), (put, ('zz', DONE), ('guard', 'zz', DONE), 'deed'),
                (put, (None, None), ('free', None), 'shape'), (put, ('a', False), ('guard', 'a', False), 'shape'),
                (put, ('a', ()), ('guard', 'a', ()), 'shape'), (put, (('a',), DONE), ('guard', ('a',), DONE), 'shape'),
                (put, ('a', HEARD), ('guard', 'a', HEARD), 'saying'), (name, ('one',), ('mark', 'one'), 'twice'),
                (name, (None,), ('mark', None), 'shape'), (name, (['one'],), ('mark', ['one']), 'shape'),
                (add, (('do', 'b'),), ('do', 'b'), 'barred'), (add, ('do',), 'do', 'shape'), (add, (None,), None, 'shape')):
            self.impossible(event, reason, function, *args)
            counts += 1
            self.same([state_of(house), house.counts()], [before, (counts, counts)])

    def test_properties_are_only_read(self):
        house = house_behind(FREE, ('do', 'a'))
        for name in ('run_now', 'book_now', 'listeners_now', 'watched_now', 'guards_now'):
            with self.assertRaises(AttributeError):
                setattr(house, name, ())
        self.same(house.run_now, ('a',))

    def test_two_houses(self):
        one, other = House(FREE), House(FREE)
        one.do_all(('watch', DONE), ('do', 'a'))
        other += ('do', 'm')
        with one.trial():
            one.do_deed('m')
            other['a'] = DONE
        self.same([one.run_now, other.run_now, one.guards_now, other.guards_now, other.watched_now, one.counts(), other.counts()],
                  [('a',), ('m',), (), (('a', DONE),), (), (2, 2), (2, 2)])
        self.same([other.undo(), one.undo(), len(other), len(one)], [('guard', 'a', DONE), ('do', 'a'), 1, 0])

    def test_nothing_that_is_handed_in_changes(self):
        book, events = FREE, [('guard', 'n', HEARD), ('listen', 'a', 'z'), ('do', 'a')]
        before = repr((book, events))
        house = House(book)
        house.do_all(*events)
        house.tried(*events[2:])
        house.table().append('more')
        self.same([repr((book, events)), len(house.table())], [before, 3])


class TrialTest(HouseCase):

    def test_what_is_changed_within_is_undone(self):
        house = house_behind(FREE, ('watch', DONE), ('do', 'a'))
        before = state_of(house)
        with house.trial() as held:
            self.assertIs(held, house)
            held.do_all(('do', 'm'), ('listen', 'm', 'z'), ('drop', DONE), ('mark', 'one'))
            held['n'] = DONE
            held += ('do', 'n')
            held.mark_now = 'two'
            self.same([held.run_now, held.watched_now, held.mark_now], [('a', 'm', 'n'), (), 'two'])
        self.same([state_of(house), house.counts()], [before, (6, 6)])

    def test_errors_within(self):
        house = house_behind(EITHER, ('do', 'a'))
        before = state_of(house)
        for error in (Stop, KeyError, NothingToUndo):
            with self.assertRaises(error):
                with house.trial():
                    house.watch(DONE)
                    house.undo()
                    house.undo()
                    if error is NothingToUndo:
                        house.undo()
                    raise error()
            self.same(state_of(house), before)
        with self.assertRaises(InvalidEvent):
            with house.trial():
                house.mark('one')
                house.do_deed('b')
        self.same([state_of(house), house.counts()], [before, (13, 13)])
        for _ in range(2):
            with house.trial():
                house.mark('one')
                break
        self.same(state_of(house), before)

    def test_one_within_another(self):
        house = House(FREE)
        house.do_deed('a')
        with house.trial():
            house.do_deed('m')
            with house.trial() as held:
                self.same([held.undo(), held.undo()], [('do', 'm'), ('do', 'a')])
                with held.trial():
                    held.do_deed('n')
                self.same(held.run_now, ())
            self.same(house.run_now, ('a', 'm'))
            house.do_deed('n')
        self.same(house.run_now, ('a',))

    def test_it_begins_with_the_call(self):
        house = House(FREE)
        house.do_deed('a')
        trial = house.trial()
        house.do_deed('m')
        with trial:
            self.same(house.run_now, ('a', 'm'))
            house.do_deed('n')
        self.same(house.run_now, ('a',))
        trial = house.trial()
        self.same([house.undo(), house.run_now], [('do', 'a'), ()])
        with trial as held:
            held.do_deed('n')
        self.same(house.run_now, ('a',))

    def test_undo_behind_the_call(self):
        house = house_behind(FREE, ('mark', 'one'), ('do', 'a'), ('watch', DONE))
        before = state_of(house)
        with house.trial():
            self.same([house.undo(), house.undo(), house.undo()], [('watch', DONE), ('do', 'a'), ('mark', 'one')])
            self.refused(NothingToUndo, {'steps': 0}, house.undo)
            house.do_deed('n')
        self.same([state_of(house), house.counts()], [before, (8, 8)])

    def test_trials_of_two_that_do_not_lie_in_each_other(self):
        house = House(FREE)
        first = house.trial()
        house.do_deed('a')
        second = house.trial()
        house.do_deed('m')
        with first:
            house.do_deed('n')
        self.same(house.run_now, ())
        with second:
            house.do_deed('m')
        self.same(house.run_now, ('a',))


class OperationTest(HouseCase):

    def test_tried(self):
        house = house_behind(FREE, ('do', 'a'), ('guard', 'n', DONE))
        before = state_of(house)
        self.same([house.tried(), house.tried(('do', 'm'), ('do', 'n'))], [(('a',), FREE), (('a', 'm', 'n'), FREE)])
        more = (('a', ('x', 'z')), *FREE[0][1:])
        self.same([house.tried(('listen', 'a', 'z')), house.tried(('listen', 'a', 'z'), ('do', 'n'), ('mark', 'one'))],
                  [(('a',), (more, FREE[1])), (('a', 'n'), (more, FREE[1]))])
        self.impossible(('do', 'n'), 'unknowing', house.tried, ('do', 'n'))
        self.impossible(('do', 'n'), 'unknowing', house.tried, ('mark', 'one'), ('do', 'n'), None)
        self.impossible(('mark', 'one'), 'twice', house.tried, ('mark', 'one'), ('mark', 'one'))
        self.impossible(None, 'shape', house.tried, ('free', 'n'), ('do', 'n'), None, ('do', 'zz'))
        self.same([state_of(house), house.counts()], [before, (2, 2)])
        for odd in NO_EVENTS[:40]:
            self.impossible(odd, 'shape', house.tried, odd)
            self.impossible(odd, 'shape', house.tried, ('do', 'a'), odd)

    def test_tried_until_it_is_full(self):
        house = House(FREE)
        house.do_all(*[('do', 'a')] * 38)
        self.same(house.tried(('do', 'm'), ('mark', 'one'))[0], ('a',) * 38 + ('m',))
        self.impossible(('mark', 'two'), 'full', house.tried, ('do', 'm'), ('mark', 'one'), ('mark', 'two'))
        self.same(len(house), 38)

    def test_tried_is_what_comes(self):
        dice = random.Random(321)
        for book in books_of_houses(322, 2):
            events = happened(dice.random(), book).events
            k = dice.randrange(len(events))
            house = house_behind(book, *events[:k])
            told = house.tried(*events[k:])
            self.same(house.do_all(*events[k:]), len(events) - k)
            self.same(told, (house.run_now, house.book_now))

    def test_undo(self):
        dice = random.Random(323)
        for book in books_of_houses(324):
            events = happened(dice.random(), book).events
            house, states = House(book), []
            for event in events:
                states.append(state_of(house) + told_by(house))
                house.happen(event)
            for event in reversed(events):
                self.same(house.undo(), event)
                self.same(state_of(house) + told_by(house), states.pop())
            for k in range(2):
                self.refused(NothingToUndo, {'steps': 0}, house.undo)
                self.same(house.counts(), (2 * len(events) + k + 1, 2 * len(events) + k + 1))
            self.same(house == House(book), True)

    def test_do_all(self):
        house = House(FREE)
        self.same([house.do_all(), house.do_all(('do', 'a'), ('mark', 'one'), ('do', 'm')), house.do_all(('do', 'a'), keep=True)],
                  [0, 3, 1])
        self.same([house.run_now, house.counts()], [('a', 'm', 'a'), (3, 3)])

    def broken(self, many, event, reason, function, *args, **more):
        """Broken is raised, from the InvalidEvent of the event."""
        with self.assertRaises(Broken) as caught:
            function(*args, **more)
        self.same([caught.exception.__class__, vars(caught.exception)], [Broken, {'many': many}])
        cause = caught.exception.__cause__
        self.same([cause.__class__, cause.event, cause.reason], [InvalidEvent, event, reason])

    def test_do_all_that_breaks(self):
        house = house_behind(FREE, ('do', 'a'), ('guard', 'n', HEARD))
        before = state_of(house)
        for k, more in enumerate(({}, {'keep': False})):
            self.broken(2, ('do', 'n'), 'unknowing', house.do_all, ('do', 'a'), ('mark', 'one'), ('do', 'n'), ('do', 'm'), **more)
            self.same([state_of(house), house.counts()], [before, (3 + k, 3 + k)])
        self.broken(2, ('do', 'n'), 'unknowing', house.do_all, ('do', 'a'), ('mark', 'one'), ('do', 'n'), ('do', 'm'), keep=True)
        self.same([house.run_now, house.mark_now, house.counts()], [('a', 'a'), 'one', (5, 5)])
        for keep in (False, True):
            self.broken(0, None, 'shape', house.do_all, None, ('do', 'm'), keep=keep)
            self.broken(1, ('mark', 'one'), 'twice', house.do_all, ('undo',)[:0] or ('do', 'm'), ('mark', 'one'), keep=keep)
        self.same([house.run_now, house.counts()], [('a', 'a', 'm'), (9, 9)])

    def test_do_all_until_it_is_full(self):
        house = House(FREE)
        self.broken(40, ('do', 'm'), 'full', house.do_all, *[('do', 'a')] * 40, ('do', 'm'))
        self.same([len(house), house.counts()], [0, (1, 1)])
        self.broken(40, ('do', 'm'), 'full', house.do_all, *[('do', 'a')] * 40, ('do', 'm'), keep=True)
        self.same([len(house), house.do_all(keep=True), house.counts()], [40, 0, (3, 3)])

    def test_keep_that_is_no_bool(self):
        house = house_behind(FREE, ('do', 'a'))
        before = state_of(house)
        k = 1
        for odd in (*ODD_DEEP, 'keep', house):
            if not isinstance(odd, bool):
                self.unusable('keep', house.do_all, ('do', 'm'), keep=odd)
                self.unusable('keep', house.do_all, None, keep=odd)
                k += 2
                self.same([state_of(house), house.counts()], [before, (k, k)])

    def test_counts(self):
        house = House(FREE)
        self.same(house.counts(), (0, 0))
        house.do_all(('watch', DONE), ('do', 'a'), ('mark', 'one'), ('guard', 'n', DONE))
        self.same(house.counts(), (1, 1))
        house.happen(('do', 'm'))
        house['n'] = HEARD
        house.mark_now = 'two'
        house += ('do', 'a')
        house.undo()
        self.same(house.counts(), (6, 6))
        # Nothing else counts.
        told_by(house)
        state_of(house)
        for question in (lambda: house.barred(None), lambda: house.tried(('do', 'a')), house.trial, house.counts,
                         lambda: house.knowers(DONE), lambda: house.holds(DONE), lambda: house.together(('x',), DONE),
                         lambda: house.twin(('z',), DONE), lambda: house.past(('x',)), lambda: house == house,
                         lambda: DONE in house, lambda: house['n'], house.log):
            question()
        for question in (lambda: house.tried(None), lambda: house.knowers(None), lambda: house.done_since('no'),
                         lambda: house[0], lambda: house.news(lost=0), lambda: house.past(())):
            with self.assertRaises((InvalidEvent, NotUsable)):
                question()
        with house.trial():
            pass
        self.same(house.counts(), (6, 6))


class QuestionTest(HouseCase):

    def cases(self, seed):
        dice = random.Random(seed)
        for book in books_of_houses(seed + 1):
            slow = happened(dice.random(), book)
            yield dice, slow, house_behind(book, *slow.events)

    def test_against_functions(self):
        known = {True: 0, False: 0}
        for dice, slow, house in self.cases(331):
            book, run = slow.now(), slow.run()
            for depth in (0, 1, 1):
                saying = saying_of_depth(dice, book, depth, 3)
                self.same([house.knowers(saying), house.holds(saying)], [who_know(book, saying, run), holds_at(book, saying, run)])
                for parties in slow_sets(book):
                    together = twin_of(book, parties, saying, run) is None
                    known[together] += 1
                    self.same(house.together(parties, saying), together)
                    twin = house.twin(parties, saying)
                    self.same(twin is None, together)
                    if twin is not None:
                        self.same([is_run(book, twin), looks_alike(book, parties, run, twin), holds_at(book, saying, twin)],
                                  [True, True, False])
            for parties in slow_sets(book):
                self.same(house.past(parties), past_of(book, run, parties))
        self.assertTrue(min(known.values()) > 50, known)

    def test_listeners_ahead_of_between_and_behind_the_deeds(self):
        for k in range(4):
            events = [('do', 'a'), ('do', 'm'), ('do', 'n')]
            events.insert(k, ('listen', 'a', 'z'))
            house = house_behind(FREE, *events)
            self.same([house.run_now, house.book_now[0][0], house.knowers(DONE), house.knowers(HEARD), house.past(('z',))],
                      [('a', 'm', 'n'), ('a', ('x', 'z')), ('x', 'y', 'z'), ('x', 'y', 'z'), ('a', 'm', 'n')])
            self.same(house.listeners_now, (('a', 'z'),))

    def test_can_do(self):
        for dice, slow, house in self.cases(332):
            self.same(house.can_do(), slow.can())
            self.same(house.can_do(), tuple(name for name, own in slow.book[0] if house.barred(('do', name)) is None))

    def test_guards_that_hold_and_do_not(self):
        house = house_behind(FREE, ('guard', 'n', DONE), ('guard', 'a', ('not', ('done', 'a', 2))))
        self.same([house.can_do(), house.guards_now], [('a', 'm'), (('a', ('not', ('done', 'a', 2))), ('n', DONE))])
        house.do_all(('do', 'a'), ('do', 'a'))
        self.same(house.can_do(), ('m',))
        house['a'] = ('done', 'a', 2)
        self.same([house.can_do(), house['a']], [('a', 'm'), ('done', 'a', 2)])
        house.do_deed('m')
        self.same(house.can_do(), ('a', 'm', 'n'))
        house['n'] = ('knows', ('z',), DONE)
        self.same([house.can_do(), house.guards_now], [('a', 'm'), (('a', ('done', 'a', 2)), ('n', ('knows', ('z',), DONE)))])
        house['n'] = None
        self.same([house.can_do(), house['n'], house.guards_now], [('a', 'm', 'n'), None, (('a', ('done', 'a', 2)),)])

    def test_watched_sayings_and_listeners_ascend(self):
        house = house_behind(FREE, ('watch', HEARD), ('listen', 'm', 'z'), ('watch', DONE), ('watch', ('not', DONE)),
                             ('listen', 'a', 'y'), ('drop', HEARD), ('watch', ('at', (0,))), ('watch', HEARD))
        self.same(house.watched_now, (('at', (0,)), DONE, HEARD, ('not', DONE)))
        self.same(house.listeners_now, (('a', 'y'), ('m', 'z')))

    def test_news(self):
        told = {True: 0, False: 0}
        for dice, slow, behind in self.cases(333):
            house, events = House(slow.book), slow.events
            slow.events = []
            for event in events:
                house.happen(event)
                slow.events.append(event)
                for lost in (False, True):
                    news = house.news(lost=lost)
                    told[lost] += len(news)
                    self.same(news, slow.news(lost))
            self.same(house.news(), house.news(lost=False))
        self.assertTrue(min(told.values()) > 3, told)

    def test_news_by_hand(self):
        house = house_behind(EITHER, ('watch', UNDONE), ('watch', ('or', DONE, ('not', DONE))))
        # Ahead of all deeds there are no news.
        self.same([house.news(), house.news(lost=True)], [(), ()])
        house.do_deed('a')
        self.same([house.news(), house.news(lost=True)], [((UNDONE, ('x',)),), ()])
        house.undo()
        house.do_deed('b')
        self.same([house.news(), house.news(lost=True)], [(), ((UNDONE, ('y',)),)])
        # Watched only behind the last deed, and a listener that came behind it.
        house = house_behind(FREE, ('do', 'a'), ('watch', DONE))
        self.same(house.news(), ((DONE, ('x',)),))
        house.listen('a', 'z')
        self.same([house.news(), house.news(lost=True)], [((DONE, ('x', 'z')),), ()])
        house.drop(DONE)
        self.same(house.news(), ())
        house.do_all(('watch', ('latest', 'm', 'a')), ('do', 'm'), ('mark', 'one'))
        self.same(house.news(), ((('latest', 'm', 'a'), ('x',)),))
        house.do_deed('a')
        self.same([house.news(), house.news(lost=True)], [(), ((('latest', 'm', 'a'), ('x',)),)])

    def test_news_of_several_sayings(self):
        house = house_behind(FREE, ('watch', ('not', ('done', 'm', 1))), ('watch', ('done', 'm', 1)), ('watch', HEARD),
                             ('watch', ('done', 'a', 1)), ('do', 'a'), ('do', 'm'))
        self.same(house.news(), ((('done', 'a', 1), ('y',)), (('done', 'm', 1), ('x', 'y'))))
        self.same(house.news(lost=True), ((('not', ('done', 'm', 1)), ('x', 'y')),))
        house.do_deed('n')
        self.same(house.news(), ((('done', 'a', 1), ('z',)), (('done', 'm', 1), ('z',)), (HEARD, ('y', 'z'))))

    def test_lost_that_is_no_bool(self):
        for house in (House(FREE), house_behind(FREE, ('do', 'a'))):
            for odd in (*ODD_DEEP, 'lost', house):
                if not isinstance(odd, bool):
                    self.unusable('lost', house.news, lost=odd)

    def test_done_since(self):
        house = house_behind(FREE, ('mark', 'one'), ('do', 'a'), ('watch', DONE), ('mark', 'two'), ('mark', 'three'), ('do', 'm'),
                             ('listen', 'n', 'x'), ('do', 'a'), ('mark', 'four'))
        self.same([house.done_since(name) for name in ('one', 'two', 'three', 'four')],
                  [('a', 'm', 'a'), ('m', 'a'), ('m', 'a'), ()])
        self.same([house.mark_now, house.done_since(name='two')], ['four', ('m', 'a')])
        for odd in (*ODD_DEEP, 'five', 'a', DONE, ('one',), ['one'], house):
            self.unusable('name', house.done_since, odd)
        house.undo()
        self.unusable('name', house.done_since, 'four')
        self.same(house.mark('four'), 3)

    def test_tally(self):
        house = house_behind(FREE, ('do', 'n'), ('do', 'a'), ('do', 'n'), ('mark', 'a'))
        self.same([house.tally(), House(FREE).tally()], [(('a', 1), ('n', 2)), ()])

    def test_table(self):
        house = house_behind(((('a', ('abcdefgh', 'x')), ('b', ('yy',))), ((('a', 0), ('b', 0)),)), ('watch', DONE),
                             ('watch', ('done', 'b', 2)), *[('do', 'a')] * 11, ('do', 'b'), ('do', 'b'))
        self.same(house.table(), ['abcdefgh 11 11  1', 'x        11 11  1', 'yy        2  2  1'])
        self.same(house.table().__class__, list)
        house.listen('b', 'x')
        self.same(house.table(), ['abcdefgh 11 11  1', 'x        13 13  2', 'yy        2 13  2'])
        for dice, slow, other in self.cases(334):
            self.same(other.table(), slow.table())

    def test_log(self):
        events = (('watch', DONE), ('do', 'a'), ('do', 'm'), ('mark', 'one'))
        house = house_behind(FREE, *events, ('listen', 'a', 'y'), ('drop', DONE))
        self.same([house.undo(), house.undo(), house.log()], [('drop', DONE), ('listen', 'a', 'y'), (('house', FREE), *events)])

    def test_values_that_cannot_be_used(self):
        house = house_behind(FREE, ('do', 'a'), ('do', 'm'))
        for odd in NO_SAYINGS:
            for question in (house.knowers, house.holds):
                self.unusable('saying', question, odd)
                self.unusable('saying', question, saying=odd)
            for question in (house.together, house.twin):
                self.unusable('saying', question, ('x',), odd)
                self.unusable('parties', question, (), odd)
        for odd in NO_PARTIES:
            self.unusable('parties', house.past, odd)
            for question in (house.together, house.twin):
                self.unusable('parties', question, odd, DONE)
                self.unusable('parties', question, saying=odd, parties=odd)

    def test_sayings_that_a_listener_makes_possible(self):
        house = house_behind(FREE, ('do', 'a'), ('do', 'n'))
        latest = ('latest', 'n', 'a')
        self.unusable('saying', house.holds, latest)
        house.listen('a', 'z')
        self.same([house.holds(latest), house.knowers(latest), house.together(('x', 'z'), latest)], [True, ('z',), True])

    def test_arguments_by_name(self):
        house = house_behind(FREE, ('do', 'a'), ('do', 'm'))
        self.same([house.together(saying=DONE, parties=('y', 'z')), house.twin(saying=DONE, parties=('x',)), house.past(parties=('z',)),
                   house.knowers(saying=DONE), house.holds(saying=HEARD), house.barred(event=('do', 'n'))],
                  [True, None, (), ('x', 'y'), False, None])


class SignTest(HouseCase):

    def test_guards_of_deeds(self):
        house = house_behind(FREE, ('guard', 'a', DONE))
        self.same([house['a'], house['m'], house['n']], [DONE, None, None])
        for odd in (*ODD_DEEP, 'b', 'x', ('a',), ['a'], house, DONE):
            self.unusable('deed', lambda value: house[value], odd)

    def test_watched_sayings(self):
        house = house_behind(FREE, ('watch', DONE), ('watch', HEARD), ('drop', DONE))
        self.same([HEARD in house, DONE in house], [True, False])
        house.watch(('done', 'm', 1))
        for odd in (*NO_SAYINGS, ('done', 'm', True), ['done', 'm', 1], ('done', 'm', 2), house, 'a', 'm'):
            self.same(odd in house, False)

    def test_len_and_iteration(self):
        house = house_behind(FREE, ('mark', 'one'), ('do', 'a'), ('watch', DONE), ('do', 'm'))
        self.same([len(house), len(House(FREE))], [2, 0])
        with self.assertRaises(TypeError):
            list(house)

    def test_equal(self):
        house = house_behind(FREE, ('do', 'a'), ('watch', DONE))
        other = House(FREE)
        other.do_all(('do', 'a'), ('mark', 'one'))
        self.same([house == other, house != other], [False, True])
        other.undo()
        other += ('watch', DONE)
        with other.trial():
            other.undo()
        self.same([house == other, house != other, other == house], [True, False, True])
        # The same run and the same sayings by another way.
        turned = house_behind(FREE, ('watch', DONE), ('do', 'a'))
        self.same([house == turned, state_of(house)[:6] == state_of(turned)[:6]], [False, True])
        self.same([House(FREE) == House(LOOSE), House(FREE) == House((FREE[0], FREE[1] * 2))], [False, False])
        for odd in (*NO_BOOKS, house.log(), Book(*FREE), Walker(FREE), FREE):
            self.same([house == odd, odd == house, house != odd], [False, False, True])


class ConsequenceTest(HouseCase):

    def test_parties_in_news_have_the_last_deed(self):
        dice = random.Random(341)
        tried = 0
        for book in books_of_houses(342):
            house = House(book)
            for event in happened(dice.random(), book).events:
                house.happen(event)
                for lost in (False, True):
                    for saying, parties in house.news(lost=lost):
                        tried += 1
                        self.assertTrue(set(parties) <= set(dict(house.book_now[0])[house.run_now[-1]]))
        self.assertTrue(tried > 10, tried)

    def test_guards_ahead_of_all_deeds(self):
        dice = random.Random(343)
        steps = 0
        for book in books_of_houses(344):
            house, saying = House(book), some_sayings(dice, book)
            for _ in range(12):
                event = some_event(dice, book, saying)
                if event[0] in ('listen', 'guard', 'free') and house.barred(event) is None:
                    house.happen(event)
            walker = Walker(guarded_book(house.book_now, *house.guards_now))
            for _ in range(6):
                self.same(house.can_do(), walker.can_now)
                if walker.can_now:
                    deed = dice.choice(walker.can_now)
                    house.do_deed(deed)
                    walker.do(deed)
                    steps += 1
            self.same(is_run(guarded_book(house.book_now, *house.guards_now), house.run_now), True)
        self.assertTrue(steps > 20, steps)
        house = house_behind(THREE, ('guard', 'n', ('done', 'a', 1)), ('listen', 'a', 'y'), ('do', 'a'), ('do', 'n'))
        self.same(is_run(guarded_book(house.book_now, *house.guards_now), ('a', 'n')), True)
        self.same(is_run(guarded_book(THREE, *house.guards_now), ('a', 'n')), False)
