"""Promises [44] to [46] and guarantee (T5): what holds at all runs, and shortest runs."""

import random

from toldall.bookchanges import renamed_deed, renamed_party
from toldall.bookclasses import Book
from toldall.coming import knows_from
from toldall.deciding import failing_run, holding_run, holds_always
from toldall.holding import holds_at, who_know
from toldall.runs import is_run
from toldall.sayingparts import party_sets
from toldall.tablechecker import lets_tables
from toldall.tables import told_tables
from tests.cases import EITHER, FREE, LOOSE, Case, slow_runs
from tests.sayings import (DONE, HEARD, NO_SAYINGS, PLACES, Near, Slow, finite_books, parties_of_book, saying_of_depth,
                           slow_sets, some_put_together, within)
from tests.test_bookchanges import NO_BOOKS

ALL = (holds_always, failing_run, holding_run)


def turned(thing, names):
    """The value with other names in it."""
    if isinstance(thing, tuple):
        return tuple([turned(each, names) for each in thing])
    return names.get(thing, thing) if isinstance(thing, str) else thing


def turned_saying(saying, names):
    """The saying with other names; its words remain."""
    inner = within(saying)
    own = saying[1:len(saying) - len(inner)]
    return (saying[0], *turned(own, names), *[turned_saying(each, names) for each in inner])


class DecidingTest(Case):

    def test_document(self):
        heard_y = ('knows', ('y',), ('done', 'a', 1))
        self.same([failing_run(FREE, HEARD), holding_run(FREE, HEARD), failing_run(FREE, ('or', ('not', ('done', 'n', 1)), HEARD))],
                  [(), ('a', 'm', 'n'), ('n',)])
        self.same([holds_always(FREE, ('or', ('not', HEARD), heard_y)), holds_always(FREE, ('knows', ('x',), HEARD))],
                  [True, False])
        self.same([holding_run(FREE, ('knows', ('x',), HEARD)), holding_run(FREE, ('knows', ('y',), HEARD))],
                  [('a', 'm', 'n', 'm'), ('a', 'm', 'n')])

    def check_runs(self, book, saying, failing, holding):
        self.same([failing_run(book, saying), holding_run(book, saying), holds_always(book, saying)],
                  [failing, holding, failing is None])
        opposite = ('not', saying)
        self.same([failing_run(book, opposite), holding_run(book, opposite), holds_always(book, opposite)],
                  [holding, failing, holding is None])
        self.same(lets_tables(book, saying, told_tables(book, saying)) == 0, failing is None)

    def test_against_all_runs(self):
        dice = random.Random(171)
        lengths = {}
        for book in finite_books(172, 10):
            slow = Slow(book)
            runs = sorted(slow.runs, key=lambda run: (len(run), run))
            for depth in (0, 1, 1, 2, 2, 3):
                saying = saying_of_depth(dice, book, depth)
                first = {True: None, False: None}
                for run in reversed(runs):
                    first[slow.holds(saying, run)] = run
                self.check_runs(book, saying, first[False], first[True])
                for run in first.values():
                    many = -1 if run is None else len(run)
                    lengths[many] = lengths.get(many, 0) + 1
        self.assertTrue(min(lengths[many] for many in (-1, 0, 1, 2)) > 5, lengths)

    def test_against_runs_of_few_deeds(self):
        dice = random.Random(173)
        lengths = {}
        for book in (FREE, LOOSE, *some_put_together(174, 5, False, deeds=3, parts=2, states=6, parties='xyz')):
            near = Near(book, 5)
            runs = [run for length in range(4) for run in slow_runs(book, length)]
            for depth in (0, 0, 1, 1, 2):
                saying = saying_of_depth(dice, book, depth, 4)
                for function, wanted in ((failing_run, False), (holding_run, True)):
                    found = function(book, saying)
                    first = next((run for run in runs if near.holds(saying, run) is wanted), None)
                    many = -1 if first is None else len(first)
                    lengths[many] = lengths.get(many, 0) + 1
                    if first is not None:
                        self.same(found, first)
                    elif found is not None:
                        self.same([len(found) > 3, is_run(book, found), near.holds(saying, found)], [True, True, wanted])
        self.assertTrue(min(lengths[many] for many in (-1, 0, 1, 2)) > 2, lengths)

    def test_runs_by_hand(self):
        for saying, failing, holding in (
                (DONE, (), ('a',)), (('done', 'n', 3), (), ('n', 'n', 'n')), (('modulo', 'm', 3, 2), (), ('m', 'm')),
                (('modulo', 'a', 2, 0), ('a',), ()), (('latest', 'm', 'a'), (), ('m',)),
                (('and', ('latest', 'm', 'a'), DONE), (), ('a', 'm')), (('or', DONE, ('not', DONE)), None, ()),
                (('and', DONE, ('not', DONE)), (), None), (('at', (0,)), None, ()), (('not', HEARD), ('a', 'm', 'n'), ()),
                (('knows', ('y', 'z'), ('not', DONE)), (), None), (('knows', ('x', 'y'), ('not', DONE)), ('a',), ()),
                (('knows', ('z',), ('done', 'm', 2)), (), ('m', 'm', 'n')),
                (('knows', ('x',), ('knows', ('z',), ('knows', ('y',), DONE))), (), ('a', 'm', 'n', 'm'))):
            self.check_runs(FREE, saying, failing, holding)

    def test_the_least_of_several(self):
        deeds = tuple((name, ('x',)) for name in 'abc')
        book = (deeds, ((('a', 1), ('b', 2), ('c', 3)), (('a', 4),), (('b', 5),), (('a', 6), ('c', 6)), (), (), ()))
        self.same([holding_run(book, ('at', (5, 6))), holding_run(book, ('at', (6,))), failing_run(book, ('at', (0, 1, 2, 4))),
                   holding_run(book, ('or', ('done', 'c', 2), ('done', 'b', 2)))],
                  [('b', 'b'), ('c', 'a'), ('c',), ('b', 'b')])

    def test_deeds_that_are_never_allowed(self):
        book = (FREE[0], ((('m', 0),), (('a', 1),)))
        self.check_runs(book, DONE, (), None)
        self.check_runs(book, ('not', ('knows', ('z',), ('done', 'm', 1))), None, ())
        self.check_runs(book, ('knows', ('z',), ('not', DONE)), None, ())
        self.check_runs(book, ('at', (0,)), None, ())
        # They still make party sets, and nexts.
        tables = told_tables(book, ('knows', ('z',), DONE))
        self.same([tables[0], tables[1][0]], [((0, (0,), (-1, 0, -1)),), ((0,) * 7, (-1, 0, -1))])

    def test_what_holds_always_is_known(self):
        dice = random.Random(175)
        tried = 0
        for book in (*finite_books(176, 6), FREE):
            for depth in (0, 0, 1, 1, 1, 2):
                saying = saying_of_depth(dice, book, depth, 5)
                for one in (saying, ('not', saying), ('or', saying, ('not', saying))):
                    if holds_always(book, one):
                        tried += 1
                        for parties in slow_sets(book):
                            self.same(holds_always(book, ('knows', parties, one)), True)
        self.assertTrue(tried > 40, tried)

    def test_names_turned_in_the_same_order(self):
        dice = random.Random(177)
        for book in (FREE, LOOSE, *finite_books(178, 3)):
            names = {name: name + 'q' for name, own in book[0]}
            names.update({party: 'p' + party for party in parties_of_book(book)})
            other = book
            for old in [deed[0] for deed in book[0]]:
                other = renamed_deed(other, old, names[old])
            for old in parties_of_book(book):
                other = renamed_party(other, old, names[old])
            for depth in (0, 1, 2):
                saying = saying_of_depth(dice, book, depth, 5)
                there = turned_saying(saying, names)
                self.same([failing_run(other, there), holding_run(other, there), holds_always(other, there)],
                          [turned(failing_run(book, saying), names), turned(holding_run(book, saying), names),
                           holds_always(book, saying)])
                for run in slow_runs(book, 2)[:5]:
                    self.same([holds_at(other, there, turned(run, names)), who_know(other, there, turned(run, names))],
                              [holds_at(book, saying, run), turned(who_know(book, saying, run), names)])
                for party in parties_of_book(book):
                    self.same(knows_from(other, names[party], there), knows_from(book, party, saying))
                self.same([party_sets(other), lets_tables(other, there, told_tables(book, saying))],
                          [turned(party_sets(book), names), lets_tables(book, saying, told_tables(book, saying))])

    def test_first_parameter_that_cannot_be_used(self):
        for function in ALL:
            for odd in (*NO_BOOKS, Book(*FREE)):
                self.unusable('book', function, odd, DONE)
                self.unusable('book', function, odd, odd)
            for odd in NO_SAYINGS:
                self.unusable('saying', function, FREE, odd)
                self.unusable('saying', function, book=FREE, saying=odd)

    def test_arguments_by_name(self):
        self.same([function(saying=('done', 'b', 1), book=EITHER) for function in ALL], [False, (), ('b',)])
        self.same([function(saying=('at', (0, 1, 2)), book=PLACES) for function in ALL], [True, None, ()])
