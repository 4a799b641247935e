"""Promise [34]: lets_saying."""

import random

from toldall.bookclasses import Book
from toldall.kinds import is_saying
from toldall.rowclasses import Row
from toldall.sayingchecker import lets_saying
from tests.cases import BOTH, EITHER, FREE, LOOSE, ODD_DEEP, Case, nested, slow_apart, some_books
from tests.sayings import (AT, DONE, EVEN, HEARD, LATEST, NO_FORMS, chain, parties_of_book, slow_depth, some_saying,
                           within)
from tests.test_bookchanges import NO_BOOKS

# Sayings by form, with their first fault in FREE.
WRONG = (
    (('done', 'b', 1), 'deed', ()), (('modulo', 'b', 2, 1), 'deed', ()), (('latest', 'a', 'b'), 'deed', ()),
    (('latest', 'b', 'a'), 'deed', ()), (('latest', 'x', 'y'), 'deed', ()), (('latest', 'a', 'n'), 'apart', ()),
    (('latest', 'n', 'a'), 'apart', ()), (('at', (1,)), 'state', ()), (('at', (0, 1)), 'state', ()),
    (('at', (0, 10 ** 59)), 'state', ()), (('knows', ('w',), DONE), 'party', ()),
    (('knows', ('x', 'zz'), DONE), 'party', ()), (('knows', ('a',), DONE), 'party', ()),
    (('not', ('done', 'x', 1)), 'deed', (0,)), (('and', DONE, ('at', (1,))), 'state', (1,)),
    (('or', ('latest', 'a', 'n'), DONE), 'apart', (0,)), (('knows', ('x',), ('knows', ('w',), DONE)), 'party', (0,)),
    (('not', ('and', HEARD, ('or', ('not', EVEN), ('done', 'b', 1)))), 'deed', (0, 1, 1)),
    # Two faults: the one of the earlier part.
    (('knows', ('w',), ('done', 'b', 1)), 'party', ()), (('not', ('knows', ('w',), ('at', (1,)))), 'party', (0,)),
    (('and', ('at', (1,)), ('done', 'b', 1)), 'state', (0,)), (('and', ('latest', 'a', 'n'), ('done', 'b', 1)), 'apart', (0,)),
    (('or', ('not', ('not', ('at', (1,)))), ('done', 'b', 1)), 'state', (0, 0, 0)),
    (('or', ('knows', ('x',), ('latest', 'a', 'n')), ('knows', ('w',), DONE)), 'apart', (0, 0)),
    (('or', DONE, ('and', ('at', (1,)), ('done', 'b', 1))), 'state', (1, 0)),
)


def slow_places(saying, place=()):
    """The parts with their places, by [34]."""
    found = [(saying, place)]
    for k, inner in enumerate(within(saying)):
        found += slow_places(inner, (*place, k))
    return found


def slow_fault(book, saying):
    names = [deed[0] for deed in book[0]]
    for part, place in slow_places(saying):
        word = part[0]
        if word in ('done', 'modulo') and part[1] not in names:
            return 'deed', place
        if word == 'latest' and (part[1] not in names or part[2] not in names):
            return 'deed', place
        if word == 'knows' and any(party not in parties_of_book(book) for party in part[1]):
            return 'party', place
        if word == 'at' and any(state >= len(book[1]) for state in part[1]):
            return 'state', place
        if word == 'latest' and slow_apart(book, part[1], part[2]):
            return 'apart', place
    return None


def put(saying, place, thing):
    """The saying with another value at the place."""
    if place == ():
        return thing
    at = len(saying) - len(within(saying)) + place[0]
    return saying[:at] + (put(saying[at], place[1:], thing),) + saying[at + 1:]


class SayingCheckerTest(Case):

    def test_document(self):
        self.same(lets_saying(FREE, HEARD), 1)
        self.bad_paper('apart', (0,), lets_saying, FREE, ('not', ('latest', 'a', 'n')))

    def test_depths(self):
        for saying, depth in ((DONE, 0), (EVEN, 0), (LATEST, 0), (AT, 0), (HEARD, 1), (('not', HEARD), 1),
                              (('knows', ('x', 'y'), ('and', DONE, HEARD)), 2), (('or', HEARD, HEARD), 1),
                              (('or', ('knows', ('x',), HEARD), HEARD), 2), (('done', 'a', 10 ** 59), 0),
                              (('modulo', 'n', 10 ** 59, 10 ** 58), 0)):
            self.same([lets_saying(FREE, saying), lets_saying(thing=saying, book=FREE)], [depth, depth])
        self.same([lets_saying(EITHER, ('at', (0, 1, 2))), lets_saying(LOOSE, ('at', (2,)))], [0, 0])

    def test_first_fault(self):
        for saying, word, place in WRONG:
            self.assertTrue(is_saying(saying))
            self.bad_paper(word, place, lets_saying, FREE, saying)
            self.bad_paper(word, (1, 0) + place, lets_saying, FREE, ('and', HEARD, ('knows', ('y', 'z'), saying)))
            self.bad_paper(word, (0,) + place, lets_saying, FREE, ('or', saying, ('at', (1,))))

    def test_shapes(self):
        for odd in (*NO_FORMS, DONE[0], Book(*FREE), Row(FREE), ('knows', ('x', 'y'), DONE, DONE), ('knows', ('X',), DONE)):
            self.bad_paper('shape', self.first_shape(odd), lets_saying, FREE, odd)
        for odd in ODD_DEEP:
            place = self.first_shape(odd)
            self.bad_paper('shape', (0, *place), lets_saying, FREE, ('not', odd))
            self.bad_paper('shape', (1, *place), lets_saying, FREE, ('and', DONE, odd))
            self.bad_paper('shape', (0, *place), lets_saying, FREE, ('or', odd, odd))
            self.bad_paper('shape', (0, 1, 0, *place), lets_saying, FREE,
                           ('knows', ('w',), ('or', HEARD, ('not', odd))))
            # One of the odd values, ('not',), is a set of names.
            self.bad_paper('shape', (0,) if odd == ('not',) else (), lets_saying, FREE, ('knows', odd, odd))

    def first_shape(self, odd):
        """The place of what is no saying in the odd values with one of the words for sayings within."""
        for thing, place in ((('not', list(DONE)), (0,)), (('or', DONE, None), (1,)), (('not', ('not', ())), (0, 0))):
            if repr(thing) == repr(odd):
                return place
        return ()

    def test_shapes_come_ahead_of_all_others(self):
        for saying, word, place in WRONG:
            self.bad_paper('shape', (1,), lets_saying, FREE, ('and', saying, None))
            self.bad_paper('shape', (1, 0), lets_saying, FREE, ('and', saying, ('not', ('done', 'a', True))))
            self.bad_paper('shape', (0,), lets_saying, FREE, ('and', (), saying))
        self.bad_paper('shape', (0, 1), lets_saying, FREE, ('and', ('and', DONE, 0), ('or', 0, 0)))
        self.bad_paper('shape', (0,), lets_saying, FREE, ('knows', ('w',), ('latest', 'a', 'a')))
        self.bad_paper('shape', (1, 0, 0), lets_saying, FREE, ('or', HEARD, ('and', ('not', ('at', (0, 0))), ('at', ()))))

    def test_sayings_of_many_parts(self):
        for word, depth in (('not', 0), ('knows', 29)):
            self.same(lets_saying(FREE, chain(word, 29)), depth)
            self.bad_paper('deed', (0,) * 29, lets_saying, FREE, chain(word, 29, ('done', 'b', 1)))
            self.bad_paper('shape', (0,) * 29, lets_saying, FREE, chain(word, 29, ('done', 'a', 0)))
            self.bad_paper('shape', (0,) * 4, lets_saying, FREE, chain(word, 4, nested(DONE, 25)))
        wide = DONE
        for k in range(28):
            wide = ('and', wide, HEARD) if k % 2 else ('or', HEARD, wide)
        self.same(lets_saying(FREE, wide), 1)
        full = ('and', DONE, HEARD)
        for _ in range(9):
            full = ('or', full, full)
        self.same(lets_saying(FREE, full), 1)
        self.bad_paper('shape', (0,) + (1,) * 10, lets_saying, FREE, ('and', put(full, (1,) * 10, ('not',)), None))
        self.same(lets_saying(FREE, chain('knows', 300)), 300)

    def test_against_the_words_of_the_document(self):
        dice = random.Random(121)
        told = {}
        for book in (FREE, EITHER, BOTH, LOOSE, *some_books(122, 6, deeds=4, states=3, odds=0.7)):
            for _ in range(40):
                saying = some_saying(dice, book, 3, 10)
                self.same(lets_saying(book, saying), slow_depth(saying))
                places = [place for part, place in slow_places(saying)]
                for _ in range(2):
                    saying = put(saying, dice.choice(places), dice.choice(WRONG)[0])
                    places = [place for part, place in slow_places(saying)]
                fault = slow_fault(book, saying)
                if fault is None:
                    self.same(lets_saying(book, saying), slow_depth(saying))
                else:
                    told[fault[0]] = told.get(fault[0], 0) + 1
                    self.bad_paper(fault[0], fault[1], lets_saying, book, saying)
        self.assertTrue(len(told) == 4 and min(told.values()) > 10, told)

    def test_no_book(self):
        for odd in (*NO_BOOKS, Book(*FREE)):
            self.unusable('book', lets_saying, odd, DONE)
            self.unusable('book', lets_saying, odd, odd)
