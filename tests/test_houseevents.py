"""Promises [63] and [64]: events by form, and the reasons why one is not possible."""

import random

from toldall.bookclasses import Book
from toldall.errors import InvalidEvent
from toldall.houseevents import is_event
from toldall.houses import House
from tests.cases import EITHER, FREE, ODD_DEEP, Case
from tests.housing import (EVENTS, NO_EVENTS, THREE, SlowHouse, books_of_houses, happened, some_event, some_sayings,
                           state_of)
from tests.sayings import DONE, HEARD, NO_FORMS, NO_SAYINGS, chain

LATEST = ('latest', 'a', 'n')


class EventTest(Case):

    def test_events_by_form(self):
        for event in EVENTS:
            self.same(is_event(event), True)
            self.same([is_event(list(event)), is_event((*event, 'a')), is_event(event[:-1]), is_event((event,))], [False] * 4)
        self.same([is_event(thing=EVENTS[0]), is_event(('watch', chain('not', 25))), is_event(('guard', 'a', chain('knows', 9)))],
                  [True, True, True])

    def test_what_is_no_event(self):
        for odd in (*NO_EVENTS, Book(*FREE), House(FREE), FREE, EITHER, (Book(*FREE), 'a'), ('do', House(FREE))):
            self.same(is_event(odd), False)

    def test_one_value_changed(self):
        for event in EVENTS:
            for k in range(len(event)):
                for odd in (*ODD_DEEP, 'a', DONE):
                    changed = (*event[:k], odd, *event[k + 1:])
                    named = isinstance(odd, str) and odd == 'a' and k > 0 and isinstance(event[k], str)
                    said = odd == DONE and k > 0 and isinstance(event[k], tuple)
                    self.same(is_event(changed), named or said)


class ReasonTest(Case):

    def reasons(self, house, *events):
        """The reason of each event; happen tells the same, and leaves all as it is."""
        told = []
        for event in events:
            before = state_of(house)
            reason = house.barred(event)
            told.append(reason)
            if reason is None:
                house.happen(event)
                self.same(house.undo(), event)
            else:
                self.refused(InvalidEvent, {'event': event, 'reason': reason}, house.happen, event)
            self.same([house.barred(event=event), state_of(house)], [reason, before])
        return told

    def test_document(self):
        house = House(FREE)
        self.same(self.reasons(house, ('listen', 'a', 'x'), ('listen', 'a', 'z')), ['same', None])
        house.happen(('guard', 'n', DONE))
        self.same(self.reasons(house, ('do', 'n'), ('do', 'a')), ['unknowing', None])

    def test_no_events(self):
        for house in (House(FREE), House(EITHER)):
            for odd in (*NO_EVENTS, Book(*FREE), house):
                self.same(house.barred(odd), 'shape')
                self.refused(InvalidEvent, {'event': odd, 'reason': 'shape'}, house.happen, odd)
                self.refused(InvalidEvent, {'event': odd, 'reason': 'shape'}, house.tried, odd)
            self.same(state_of(house), state_of(House(house.book_now)))

    def test_each_reason(self):
        house = House(FREE)
        self.same(self.reasons(house, ('do', 'b'), ('listen', 'zz', 'x'), ('guard', 'b', DONE), ('free', 'b')), ['deed'] * 4)
        self.same(self.reasons(house, ('listen', 'a', 'w'), ('listen', 'a', 'a')), ['party'] * 2)
        self.same(self.reasons(house, ('watch', LATEST), ('watch', ('at', (1,))), ('guard', 'a', ('done', 'b', 1)),
                               ('guard', 'a', ('knows', ('w',), DONE))), ['saying'] * 4)
        self.same(self.reasons(house, ('listen', 'm', 'y'), ('drop', DONE), ('drop', ('at', (9,))), ('free', 'a')), ['same'] * 4)
        house.do_all(('watch', DONE), ('guard', 'a', DONE), ('mark', 'one'), ('listen', 'n', 'x'))
        self.same(self.reasons(house, ('watch', DONE), ('guard', 'a', DONE), ('listen', 'n', 'x')), ['same'] * 3)
        self.same(self.reasons(house, ('mark', 'one'), ('mark', 'two')), ['twice', None])
        self.same(self.reasons(house, ('drop', DONE), ('guard', 'a', HEARD), ('guard', 'm', DONE), ('free', 'a'),
                               ('watch', HEARD)), [None] * 5)
        self.same(self.reasons(house, ('do', 'a'), ('do', 'm')), ['unknowing', None])
        house = House(EITHER)
        self.same(self.reasons(house, ('do', 'a'), ('do', 'b')), [None, None])
        house.do_deed('a')
        self.same(self.reasons(house, ('do', 'a'), ('do', 'b'), ('free', 'a')), ['barred', 'barred', 'same'])

    def test_the_first_one_of_two(self):
        house = House(EITHER)
        house.happen(('guard', 'b', ('done', 'a', 1)))
        for events in ((('do', 'zz'), 'deed'), (('listen', 'zz', 'zz'), 'deed'), (('listen', 'zz', 'x'), 'deed'),
                       (('guard', 'zz', HEARD), 'deed'), (('guard', 'b', HEARD), 'saying'), (('watch', HEARD), 'saying'),
                       (('drop', HEARD), 'same'), (('guard', 'b', DONE), 'same'), (('do', 'b'), 'unknowing')):
            self.same(self.reasons(house, events[0]), [events[1]])
        house.do_deed('a')
        # The book does not allow it, and y does not know its guard.
        self.same(self.reasons(house, ('do', 'b')), ['barred'])
        house.watch(DONE)
        self.same(self.reasons(house, ('watch', DONE), ('do', 'b'), ('free', 'a'), ('free', 'zz')), ['same', 'barred', 'same', 'deed'])

    def test_moments_called_as_deeds_and_parties(self):
        house = House(FREE)
        house.do_all(('mark', 'a'), ('mark', 'x'), ('mark', 'do'), ('guard', 'm', DONE))
        self.same(self.reasons(house, ('do', 'a'), ('listen', 'a', 'y'), ('guard', 'a', DONE), ('free', 'm'), ('mark', 'm')), [None] * 5)
        self.same(self.reasons(house, ('mark', 'a'), ('mark', 'do')), ['twice'] * 2)

    def test_full(self):
        house = House(FREE)
        house.do_all(('watch', DONE), ('mark', 'one'), ('guard', 'n', HEARD), *[('do', 'a')] * 36)
        self.same(self.reasons(house, ('do', 'b'), ('mark', 'one'), ('do', 'n'), ('do', 'a')), ['deed', 'twice', 'unknowing', None])
        house.do_deed('m')
        self.same([len(house.log()), len(house)], [41, 37])
        self.same(self.reasons(house, ('do', 'a'), ('do', 'b'), ('do', 'n'), ('mark', 'one'), ('watch', DONE), ('watch', ('at', (9,))),
                               ('listen', 'a', 'w'), ('free', 'a'), ('drop', HEARD), *EVENTS), ['full'] * (9 + len(EVENTS)))
        self.same(self.reasons(house, *NO_EVENTS[:60], ('done', 'a', 1), None), ['shape'] * 62)
        # But for "full" a and m are possible.
        self.same(house.can_do(), ('a', 'm'))
        house.undo()
        self.same(self.reasons(house, ('do', 'a'), ('do', 'n')), [None, 'unknowing'])

    def test_most_events(self):
        self.same(House.MOST, 40)
        self.same(House(FREE).MOST, 40)

    def test_sayings_of_the_book_now(self):
        house = House(FREE)
        self.same(self.reasons(house, ('watch', LATEST), ('guard', 'n', LATEST)), ['saying', 'saying'])
        house.listen('a', 'z')
        self.same(self.reasons(house, ('watch', LATEST), ('guard', 'n', LATEST)), [None, None])
        house.do_all(('watch', LATEST), ('guard', 'n', LATEST), ('do', 'm'))
        self.same(self.reasons(house, ('do', 'n')), ['unknowing'])
        house.do_deed('a')
        self.same(self.reasons(house, ('do', 'n')), [None])

    def test_guards_look_at_the_book_now(self):
        house = House(FREE)
        house.do_all(('guard', 'n', DONE), ('do', 'a'))
        self.same(self.reasons(house, ('do', 'n')), ['unknowing'])
        house.listen('a', 'z')
        self.same(self.reasons(house, ('do', 'n')), [None])
        house = House(FREE)
        house.do_all(('guard', 'n', DONE), ('do', 'a'), ('listen', 'n', 'x'))
        self.same(self.reasons(house, ('do', 'n')), [None])

    def test_guards_do_not_matter_to_what_is_known(self):
        # By the guarded book y would know behind m that a was done.
        house = House(FREE)
        house.do_all(('guard', 'm', DONE), ('guard', 'n', DONE))
        self.same(self.reasons(house, ('do', 'm'), ('do', 'n'), ('do', 'a')), ['unknowing', 'unknowing', None])
        house.do_all(('do', 'a'), ('free', 'm'), ('do', 'm'))
        self.same(self.reasons(house, ('do', 'n'), ('do', 'm')), [None, None])
        house = House(FREE)
        house.do_all(('do', 'n'), ('guard', 'n', DONE))
        self.same([house.run_now, self.reasons(house, ('do', 'n'))], [('n',), ['unknowing']])

    def test_against_the_slow_house(self):
        dice = random.Random(301)
        told = {}
        for book in (*books_of_houses(302), FREE, EITHER, THREE):
            saying = some_sayings(dice, book)
            house, slow = House(book), SlowHouse(book)
            for _ in range(130):
                event = some_event(dice, book, saying)
                reason = slow.reason(event)
                told[reason] = told.get(reason, 0) + 1
                self.same(house.barred(event), reason)
                if reason is None:
                    house.happen(event)
                    slow.events.append(event)
                else:
                    self.refused(InvalidEvent, {'event': event, 'reason': reason}, house.happen, event)
            self.same(state_of(house), slow.state())
        self.assertTrue(set(told) == {None, 'full', 'deed', 'party', 'saying', 'same', 'twice', 'barred', 'unknowing'}
                        and min(told.values()) > 4, told)

    def test_values_that_are_no_sayings(self):
        house = House(FREE)
        for odd in NO_SAYINGS:
            wanted = 'shape' if odd in NO_FORMS else 'saying'
            self.same([house.barred(('watch', odd)), house.barred(('guard', 'a', odd))], [wanted, wanted])
            self.same(house.barred(('drop', odd)), 'shape' if odd in NO_FORMS else 'same')

    def test_two_houses(self):
        one, other = House(FREE), House(FREE)
        one.do_all(('watch', DONE), ('guard', 'a', DONE), ('mark', 'one'), ('listen', 'a', 'z'))
        self.same([other.barred(event) for event in one.log()[1:]], [None] * 4)
        self.same(state_of(other), state_of(House(FREE)))
        self.same(happened(303, FREE).state(), happened(303, FREE).state())
