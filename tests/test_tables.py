"""Promises [41] to [43]: told tables, and their checker."""

import random

from toldall.bookclasses import Book
from toldall.deciding import holds_always
from toldall.holding import holds_at
from toldall.tablechecker import lets_tables
from toldall.tables import told_tables
from tests.cases import BOTH, EITHER, FREE, LOOSE, ODD_DEEP, Case, slow_runs
from tests.papers import paths_in, put, value_at
from tests.sayings import (DONE, HEARD, NO_SAYINGS, PLACES, chain, finite_books, parties_of_book, saying_of_depth,
                           slow_facts, some_put_together)
from tests.test_bookchanges import NO_BOOKS
from tests.told import (check_tables, names_in, others_tables, slow_table_fault, slow_truth, walk)

TOLD = (((0, (0,), (1, 2)), (1, (1,), (-1, -1)), (2, (0,), (-1, -1))),)
ONCE = ('done', 'a', 1)


def one_note(note, name):
    return None


def by_turns(note, name):
    return not note


def by_name(note, name):
    return name


def cases(seed, depths=(0, 1, 1, 2, 2, 3), size=5):
    """Books, and sayings of these depths."""
    dice = random.Random(seed)
    books = [FREE, LOOSE, *finite_books(seed + 1, 3), *some_put_together(seed + 2, 3, False, deeds=3, parts=2, states=8)]
    return [(book, saying_of_depth(dice, book, depth, size)) for book in books for depth in depths]


class TablesTest(Case):

    def test_document(self):
        self.same([lets_tables(EITHER, ONCE, TOLD), lets_tables(EITHER, ('not', ONCE), TOLD)], [2, 1])
        self.bad_paper('next', (0, 0), lets_tables, EITHER, ('done', 'b', 1), TOLD)
        self.bad_paper('stand', (0, 0), lets_tables, EITHER, ONCE, (TOLD[0][:2],))

    def test_told_tables_are_looked_through(self):
        for book, saying in cases(161):
            check_tables(self, book, saying, told_tables(book, saying))

    def test_no_two_stands_are_equal(self):
        for book, saying in cases(162):
            for level in told_tables(book, saying):
                self.same(len(set(level)), len(level))
        self.same([len(level) for level in told_tables(book=FREE, saying=HEARD)], [2, 4])

    def test_each_run_leads_to_a_stand_where_the_same_holds(self):
        told = {True: 0, False: 0}
        for book, saying in cases(163):
            tables = told_tables(book, saying)
            top = len(tables) - 1
            truths = [slow_truth(book, saying, tables, top, k) for k in range(len(tables[top]))]
            for length in range(4):
                for run in slow_runs(book, length)[:12]:
                    holds = truths[walk(book, tables[top], run)]
                    told[holds] += 1
                    self.same(holds_at(book, saying, run), holds)
            self.same(lets_tables(book, saying, tables), truths.count(False))
            self.same(holds_always(book, saying), all(truths))
        self.assertTrue(min(told.values()) > 100, told)

    def test_tables_in_which_stands_are_equal(self):
        twice = 0
        for book, saying in cases(164, (0, 1, 2), 4):
            for note in (one_note, by_turns, by_name):
                tables = others_tables(book, saying, note)
                if max([len(level) for level in tables]) > 60:
                    continue
                twice += any(len(set(level)) < len(level) for level in tables)
                check_tables(self, book, saying, tables)
                top = len(tables) - 1
                truths = [slow_truth(book, saying, tables, top, k) for k in range(len(tables[top]))]
                self.same([lets_tables(book, saying, tables), lets_tables(thing=tables, book=book, saying=saying)],
                          [truths.count(False), truths.count(False)])
                self.same(truths.count(False) == 0, holds_always(book, saying))
        self.assertTrue(twice > 10, twice)

    def test_equal_stands_by_hand(self):
        # The two stands behind a are equal, and so is the one behind m with stand 0.
        book = (FREE[0][:2], ((('a', 0), ('m', 0)),))
        level = ((0, (0,), (1, 3)), (0, (1,), (2, 1)), (0, (1,), (1, 2)), (0, (0,), (2, 0)))
        self.same(lets_tables(book, ONCE, (level,)), 2)
        self.same(lets_tables(book, ('or', ONCE, ('not', ONCE)), (level,)), 0)

    def test_tables_of_sayings_with_equal_facts_and_depth(self):
        one = ('and', HEARD, ('latest', 'm', 'a'))
        other = ('or', ('latest', 'm', 'a'), ('not', ('knows', ('x', 'y'), ('or', DONE, ('at', (0,))))))
        for tables in (told_tables(FREE, one), others_tables(FREE, one, by_turns)):
            check_tables(self, FREE, other, tables)
            top = [slow_truth(FREE, other, tables, 1, k, slow_facts(one)) for k in range(len(tables[1]))]
            self.same(lets_tables(FREE, other, tables), top.count(False))
        self.bad_paper('shape', -1, lets_tables, FREE, chain('knows', 2), told_tables(FREE, HEARD))
        self.bad_paper('shape', -1, lets_tables, FREE, DONE, told_tables(FREE, HEARD))
        self.bad_paper('shape', -1, lets_tables, FREE, one, told_tables(FREE, HEARD))

    def test_no_facts_at_all(self):
        saying = ('knows', ('x',), ('at', (0, 2)))
        tables = told_tables(PLACES, saying)
        check_tables(self, PLACES, saying, tables)
        self.same([lets_tables(PLACES, saying, tables), {stand[1] for stand in tables[0]}], [1, {()}])


class TableCheckerTest(Case):

    def check(self, book, saying, thing):
        """The checker says of changed tables what the document says; the word of the fault is returned."""
        fault = slow_table_fault(book, saying, thing)
        if fault is None:
            top = len(thing) - 1
            many = [slow_truth(book, saying, thing, top, k) for k in range(len(thing[top]))].count(False)
            self.same(lets_tables(book, saying, thing), many)
            return None
        self.bad_paper(fault[0], fault[1], lets_tables, book, saying, thing)
        return fault[0]

    def test_every_value_changed(self):
        told = {}
        for book, saying in ((EITHER, ('and', ONCE, ('modulo', 'b', 2, 1))), (EITHER, ('knows', ('x',), ONCE)),
                             (BOTH, ('not', ('knows', ('y',), ONCE))), (FREE, HEARD), (LOOSE, ('latest', 'm', 'a'))):
            tables = told_tables(book, saying)
            for path in paths_in(tables):
                value = value_at(tables, path)
                others = (None, (), [], True, -1, 'a') if isinstance(value, tuple) else (
                    value + 1, value - 1, -1, 0, 10 ** 59, True, False, '0', (value,), None)
                for other in others:
                    word = self.check(book, saying, put(tables, path, other))
                    told[word] = told.get(word, 0) + 1
        self.assertTrue(set(told) == {None, 'shape', 'stand', 'first', 'next'} and min(told.values()) > 10, told)

    def test_two_and_three_changes(self):
        dice = random.Random(165)
        told = {}
        for book, saying in cases(166, (0, 1, 2), 4):
            for tables in (told_tables(book, saying), others_tables(book, saying, by_name)):
                places = [path for path in paths_in(tables) if not isinstance(value_at(tables, path), tuple)]
                for _ in range(12):
                    thing = tables
                    for path in dice.sample(places, min(len(places), dice.choice((2, 2, 3)))):
                        thing = put(thing, path, max(-1, value_at(tables, path) + dice.choice((-1, 1, 1, 2))))
                    word = self.check(book, saying, thing)
                    told[word] = told.get(word, 0) + 1
        self.assertTrue(min(told.get(word, 0) for word in ('shape', 'stand', 'first', 'next')) > 10, told)

    def test_stands_exchanged_left_out_and_added(self):
        dice = random.Random(167)
        told = {}
        for book, saying in cases(168, (0, 1, 2), 4):
            tables = told_tables(book, saying)
            for at, level in enumerate(tables):
                i, j = dice.randrange(len(level)), dice.randrange(len(level))
                swapped = list(level)
                swapped[i], swapped[j] = swapped[j], swapped[i]
                for other in (tuple(swapped), level[:i] + level[i + 1:], (*level, level[i]), (level[i], *level), level[:1],
                              level[::-1]):
                    thing = put(tables, (at,), other)
                    word = self.check(book, saying, thing)
                    told[word] = told.get(word, 0) + 1
        self.assertTrue(min(told.get(word, 0) for word in ('stand', 'first', 'next')) > 3, told)

    def test_words_by_hand(self):
        one, two, three = TOLD[0]
        for level, word, at in (
                ((one, two), 'stand', (0, 0)), ((one, two, three, three), 'stand', (0, 3)), ((one, three, two), 'next', (0, 0)),
                (((3, (0,), (1, 2)), two, three), 'stand', (0, 0)), (((0, (0,), (1, 3)), two, three), 'stand', (0, 0)),
                ((one, (1, (1,), (3, -1)), three), 'stand', (0, 1)), (((0, (0,), (1, 1)), two, three), 'stand', (0, 2)),
                # Stand 2 is a next of itself and of stand 3 alone.
                (((0, (0,), (1, 3)), two, (2, (0,), (2, -1)), (2, (0,), (2, -1))), 'stand', (0, 2)),
                (((1, (0,), (1, 2)), two, three), 'first', 0), (((0, (1,), (1, 2)), two, three), 'first', 0),
                (((1, (1,), (1, 2)), two, (3, (0,), (-1, -1))), 'stand', (0, 2)),
                ((one, (1, (1,), (-1, 0)), three), 'next', (0, 1)), ((one, (1, (0,), (-1, -1)), three), 'next', (0, 0)),
                ((one, (2, (1,), (-1, -1)), three), 'next', (0, 0)), ((one, two, (2, (1,), (-1, -1))), 'next', (0, 0)),
                ((one, two, (2, (0,), (2, 2))), 'next', (0, 2)), (((0, (0,), (-1, 1)), three), 'next', (0, 0))):
            self.bad_paper(word, at, lets_tables, EITHER, ONCE, (level,))
            self.same(slow_table_fault(EITHER, ONCE, (level,)), (word, at))

    def test_words_of_higher_levels_by_hand(self):
        saying = ('knows', ('x',), ONCE)
        low = TOLD[0]
        # The links are of x, of y, and of both.
        high = (((0, 0, 0), (1, 2)), ((1, 0, 1), (-1, -1)), ((0, 2, 2), (-1, -1)))
        self.same([lets_tables(EITHER, saying, (low, high)), lets_tables(EITHER, ('knows', ('y',), ONCE), (low, high)),
                   lets_tables(EITHER, ('knows', ('x', 'y'), ONCE), (low, high))], [2, 3, 2])
        for level, word, at in (
                ((high[0], ((1, 3, 1), (-1, -1)), high[2]), 'stand', (1, 1)), (high[:2], 'stand', (1, 0)),
                ((high[0], high[1], high[2], high[2]), 'stand', (1, 3)),
                ((((0, 0, 1), (1, 2)), high[1], high[2]), 'first', 1), ((((1, 0, 0), (1, 2)), *high[1:]), 'first', 1),
                ((high[0], ((1, 1, 1), (-1, -1)), high[2]), 'next', (1, 0)),
                ((high[0], ((0, 0, 1), (-1, -1)), high[2]), 'next', (1, 0)),
                ((high[0], ((1, 0, 0), (-1, -1)), high[2]), 'next', (1, 0)),
                ((high[0], ((1, 0, 1), (1, -1)), high[2]), 'next', (1, 1)),
                ((high[0], high[1], ((0, 2, 2), (-1, 0))), 'next', (1, 2)),
                ((((0, 0, 0), (-1, 1)), high[2]), 'next', (1, 0))):
            self.bad_paper(word, at, lets_tables, EITHER, saying, (low, level))
        # All of a lower level comes ahead of a higher one, but for the shape.
        bad = (low[0], (1, (0,), (-1, -1)), low[2])
        self.bad_paper('next', (0, 0), lets_tables, EITHER, saying, (bad, high[:2]))
        self.bad_paper('stand', (0, 0), lets_tables, EITHER, saying, (low[:2], (((0, 0, 5), (1, 2)),)))
        self.bad_paper('shape', -1, lets_tables, EITHER, saying, (bad, (*high, None)))

    def test_shapes(self):
        self.bad_paper('shape', -1, lets_tables, EITHER, ONCE, TOLD[0])
        for odd in (*ODD_DEEP, list(TOLD), [list(TOLD[0])], (list(TOLD[0]),), ((),), (TOLD[0], TOLD[0]), Book(*FREE)):
            self.bad_paper('shape', -1, lets_tables, EITHER, ONCE, odd)
            self.bad_paper('shape', -1, lets_tables, EITHER, ONCE, (odd,))
            self.bad_paper('shape', -1, lets_tables, EITHER, ONCE, (TOLD[0], odd))
            self.bad_paper('shape', -1, lets_tables, EITHER, ('knows', ('x',), ONCE), (TOLD[0], odd))
            self.bad_paper('shape', -1, lets_tables, EITHER, ONCE, ((*TOLD[0], odd),))
            for k in range(3):
                # The marks of a stand may be any numbers here.
                if k != 1 or isinstance(odd, bool) or not isinstance(odd, int) or odd < 0:
                    self.bad_paper('shape', -1, lets_tables, EITHER, ONCE, put(TOLD, (0, 1, k), (odd,)))

    def test_first_parameter_that_cannot_be_used(self):
        for odd in (*NO_BOOKS, Book(*FREE)):
            self.unusable('book', told_tables, odd, DONE)
            self.unusable('book', told_tables, odd, odd)
            self.unusable('book', lets_tables, odd, DONE, TOLD)
            self.unusable('book', lets_tables, odd, None, None)
        for odd in NO_SAYINGS:
            self.unusable('saying', told_tables, FREE, odd)
            self.unusable('saying', lets_tables, FREE, odd, TOLD)
            self.unusable('saying', lets_tables, FREE, odd, None)

    def test_names_and_parties_stand_for_themselves(self):
        for book, saying in cases(169, (1, 2), 4):
            self.same([len(stand[-1]) for stand in told_tables(book, saying)[0]],
                      [len(names_in(book))] * len(told_tables(book, saying)[0]))
            self.same([len(stand[0]) for stand in told_tables(book, saying)[1]],
                      [2 ** len(parties_of_book(book)) - 1] * len(told_tables(book, saying)[1]))
