"""Promises [51] and [53], and guarantee (T7): books in which deeds are done only by parties that know something."""

import random

from toldall.bookchanges import with_listener
from toldall.bookclasses import Book
from toldall.errors import NotUsable
from toldall.guards import guarded_book
from toldall.holding import holds_at
from toldall.kinds import is_book
from toldall.merging import least_machine
from tests.cases import EITHER, FREE, LOOSE, ODD_DEEP, Case, slow_end, slow_runs
from tests.sayings import (DONE, HEARD, NO_SAYINGS, PLACES, Near, Slow, all_runs, finite_books, saying_of_depth,
                           slow_depth, slow_parts, slow_positive, some_positive, some_put_together)
from tests.test_bookchanges import NO_BOOKS
from tests.test_coming import NEVER, THEN
from tests.told import names_in, others_tables, slow_truth

MET, CLEAR = ('done', 'm', 1), ('or', ('not', ('done', 'a', 1)), ('done', 'm', 1))


def some_pairs(dice, book, many, depths=(0, 1), size=4):
    """Pairs of deeds of the book and sayings of these depths."""
    return [(dice.choice(names_in(book)), saying_of_depth(dice, book, dice.choice(depths), size)) for _ in range(many)]


def keeps_guards(book, pairs, holds, run):
    """Whether each deed of a run was done by parties that knew each saying that a pair gives for it."""
    own = dict(book[0])
    return all(holds(('knows', own[name], saying), run[:k]) for k, name in enumerate(run)
               for deed, saying in pairs if deed == name)


def slow_guarded(book, pairs):
    """The least machine, by told tables for all of the pairs together that are made in another way."""
    own, known = dict(book[0]), None
    for deed, saying in pairs:
        part = ('knows', own[deed], saying)
        known = part if known is None else ('and', known, part)
    tables = others_tables(book, known, lambda note, name: None)
    top, facts, rows = len(tables) - 1, slow_facts_of(known), []
    for k, stand in enumerate(tables[top]):
        barred = [deed for deed, saying in pairs if not slow_truth(book, ('knows', own[deed], saying), tables, top, k, facts)]
        rows.append(tuple((name, end) for name, end in zip(names_in(book), stand[-1]) if end != -1 and name not in barred))
    return least_machine((book[0], tuple(rows)))


def slow_facts_of(saying):
    return tuple(sorted({part for part in slow_parts(saying) if part[0] in ('done', 'modulo', 'latest')}))


class GuardedTest(Case):

    def check(self, book, got):
        """The result is a book, the least machine with its runs, and has all deeds."""
        self.same([is_book(got), got[0], least_machine(got)], [True, book[0], got])

    def test_document(self):
        self.same(guarded_book(FREE, ('a', MET), ('n', CLEAR))[1], ((('m', 1),), (('a', 1), ('m', 1), ('n', 1))))
        self.same(guarded_book(guarded_book(FREE, ('a', MET)), ('n', CLEAR))[1],
                  ((('m', 1), ('n', 0)), (('a', 1), ('m', 1), ('n', 1))))

    def test_by_hand(self):
        free, deeds = ((('a', 0), ('m', 0), ('n', 0)),), FREE[0]
        only = guarded_book(FREE, ('n', DONE))[1]
        self.same(only, ((('a', 1), ('m', 0)), (('a', 1), ('m', 2)), (('a', 2), ('m', 2), ('n', 2))))
        for pairs, wanted in (
                ((), free), ((('a', DONE),), ((('m', 0), ('n', 0)),)), ((('a', ('or', DONE, ('not', DONE))),), free),
                ((('a', ('not', DONE)),), ((('a', 1), ('m', 0), ('n', 0)), (('m', 1), ('n', 1)))),
                ((('n', DONE), ('n', DONE)), only), ((('n', DONE), ('a', ('or', DONE, ('not', DONE)))), only)):
            self.same(guarded_book(FREE, *pairs), (deeds, wanted))
        self.same(guarded_book(FREE, ('m', DONE), ('m', ('done', 'n', 1)), ('n', ('not', DONE)))[1], ((('a', 0),),))

    def test_without_pairs(self):
        for book in (FREE, EITHER, LOOSE, PLACES, THEN, *some_put_together(221, 3, False)):
            self.same(guarded_book(book), least_machine(book))
            self.same(guarded_book(book=book), least_machine(book))

    def test_against_all_runs(self):
        dice = random.Random(222)
        told = {}
        for book in finite_books(223, 6):
            slow = Slow(book)
            for many in (1, 1, 2, 2, 3):
                pairs = some_pairs(dice, book, many, (0, 1, 1, 2))
                wanted = [run for run in slow.runs if keeps_guards(book, pairs, slow.holds, run)]
                got = guarded_book(book, *pairs)
                self.check(book, got)
                self.same(sorted(all_runs(got)), sorted(wanted))
                part = 'all' if len(wanted) == len(slow.runs) else 'some' if len(wanted) > 1 else 'none'
                told[part] = told.get(part, 0) + 1
        self.assertTrue(min(told.get(part, 0) for part in ('all', 'some', 'none')) > 1, told)

    def test_books_that_go_on_and_on(self):
        dice = random.Random(224)
        told = {}
        for book in (FREE, LOOSE, THEN, *some_put_together(225, 5, False, deeds=3, parts=2, states=6)):
            near = Near(book, 6)
            runs = [run for length in range(4) for run in slow_runs(book, length)]
            for many in (1, 1, 2):
                pairs = some_pairs(dice, book, many, (0, 0, 1), 3)
                got = guarded_book(book, *pairs)
                self.check(book, got)
                for run in dice.sample(runs, min(60, len(runs))):
                    wanted = keeps_guards(book, pairs, near.holds, run)
                    told[wanted] = told.get(wanted, 0) + 1
                    self.same(slow_end(got, run) is not None, wanted)
        self.assertTrue(min(told.values()) > 100, told)

    def test_against_other_tables(self):
        dice = random.Random(226)
        sizes = set()
        for book in (FREE, LOOSE, THEN, PLACES, *some_put_together(227, 8, False, deeds=4, parts=2, states=9)):
            for many in (1, 1, 1, 2):
                pairs = some_pairs(dice, book, many, (0, 1), 3)
                got = guarded_book(book, *pairs)
                self.same(got, slow_guarded(book, pairs))
                sizes.add(len(got[1]))
        self.assertTrue(len(sizes) > 4, sizes)

    def test_what_sayings_say(self):
        # "not" above "knows", "at", and sayings of what others know.
        dice = random.Random(228)
        for book in (EITHER, PLACES, *finite_books(229, 3)):
            slow = Slow(book)
            name = names_in(book)[0]
            for saying in (('not', ('knows', dict(book[0])[name], ('done', name, 1))), ('at', (0,)), ('not', ('at', (0, 1))),
                           ('or', ('at', (1,)), ('not', ('knows', dict(book[0])[name][:1], ('at', (0, 2)))))):
                for deed in names_in(book):
                    pairs = [(deed, saying), *some_pairs(dice, book, 1)]
                    wanted = [run for run in slow.runs if keeps_guards(book, pairs, slow.holds, run)]
                    self.same(sorted(all_runs(guarded_book(book, *pairs))), sorted(wanted))

    def test_order_of_pairs_and_pairs_given_twice(self):
        dice = random.Random(230)
        for book in (FREE, EITHER, THEN, *finite_books(231, 2)):
            pairs = some_pairs(dice, book, 3)
            got = guarded_book(book, *pairs)
            self.same([guarded_book(book, *pairs[::-1]), guarded_book(book, *pairs, *pairs)], [got, got])
            deed, one, other = pairs[0][0], pairs[0][1], pairs[1][1]
            self.same(guarded_book(book, (deed, one), (deed, other)), guarded_book(book, (deed, ('and', one, other))))

    def test_many_guards_with_many_facts(self):
        # Together these have far more than three hundred stands.
        pairs = [(deed, ('modulo', other, 3, 0)) for deed in 'amn' for other in 'amn']
        got = guarded_book(FREE, *pairs)
        self.check(FREE, got)
        for run in [run for length in range(4) for run in slow_runs(FREE, length)]:
            wanted = all(holds_at(FREE, ('knows', dict(FREE[0])[name], saying), run[:k])
                         for k, name in enumerate(run) for deed, saying in pairs if deed == name)
            self.same(slow_end(got, run) is not None, wanted)

    def test_guards_in_turn(self):
        # Known is what is known by the book that is handed in: behind MET z knows nothing of m, but by its guard.
        one = guarded_book(FREE, ('a', MET))
        self.same(slow_end(guarded_book(one, ('n', CLEAR)), ('n', 'm', 'a', 'n')) is not None, True)
        self.same(slow_end(guarded_book(FREE, ('a', MET), ('n', CLEAR)), ('n',)), None)
        dice = random.Random(232)
        for book in (EITHER, *finite_books(233, 2)):
            first, second = some_pairs(dice, book, 1), some_pairs(dice, book, 1, (0, 1))
            one = guarded_book(book, *first)
            if any(part[0] == 'at' for part in slow_parts(second[0][1])):
                continue
            slow = Slow(one)
            wanted = [run for run in slow.runs if keeps_guards(one, second, slow.holds, run)]
            self.same(sorted(all_runs(guarded_book(one, *second))), sorted(wanted))

    def check_consequences(self, book, pairs):
        """What [53] says of the guarded book; returned is of how many "knows" a guard told where its deed was allowed."""
        own, slow = dict(book[0]), Slow(book)
        got = guarded_book(book, *pairs)
        known = Slow(got)
        tried = 0
        for run in all_runs(got):
            self.assertIsNot(slow_end(book, run), None)
            for name in names_in(book):
                allowed = slow_end(got, (*run, name)) is not None
                told = [saying for deed, saying in pairs if deed == name]
                if not told:
                    self.same(allowed, slow_end(book, (*run, name)) is not None)
                for saying in told:
                    if allowed and slow_positive(saying) and 'at' not in [part[0] for part in slow_parts(saying)]:
                        tried += slow_depth(saying)
                        self.same([known.holds(('knows', own[name], saying), run),
                                   slow.holds(('knows', own[name], saying), run)], [True, True])
        return tried

    def test_consequences(self):
        dice = random.Random(234)
        tried = 0
        for book in finite_books(235, 9):
            for many in (1, 2):
                self.check_consequences(book, some_pairs(dice, book, many))
            for name in names_in(book):
                # Guards that are often kept: what the parties know who do the deed, unless something was done.
                saying = ('or', ('knows', dict(book[0])[name], some_positive(dice, book, 0)), some_positive(dice, book, 1))
                other = ('or', ('not', ('done', dice.choice(names_in(book)), 1)), saying)
                tried += self.check_consequences(book, [(name, saying)]) + self.check_consequences(book, [(name, other)])
        self.assertTrue(tried > 50, tried)

    def test_pairs_that_are_none(self):
        odds = (*ODD_DEEP, DONE, ('a',), ('a', DONE, DONE), ['a', DONE], (DONE, 'a'), ('b', DONE), ('x', DONE), (('a',), DONE),
                (['a'], DONE), (True, DONE), Book(*FREE), *[('a', odd) for odd in NO_SAYINGS])
        for odd in odds:
            for k, pairs in enumerate(((odd,), (('a', DONE), odd), (('a', DONE), ('a', DONE), odd, None))):
                self.refused(NotUsable, {'word': 'pairs', 'at': k}, guarded_book, FREE, *pairs)
        self.refused(NotUsable, {'word': 'pairs', 'at': 1}, guarded_book, EITHER, ('b', NEVER), ('n', NEVER), 0)

    def test_book_that_is_none(self):
        for odd in (*NO_BOOKS, Book(*FREE)):
            self.unusable('book', guarded_book, odd)
            self.unusable('book', guarded_book, odd, ('a', DONE))
            self.unusable('book', guarded_book, odd, odd, odd)
            self.unusable('book', guarded_book, book=odd)

    def test_sayings_that_a_listener_makes_possible(self):
        pair = ('n', ('latest', 'a', 'n'))
        self.refused(NotUsable, {'word': 'pairs', 'at': 0}, guarded_book, FREE, pair)
        book = with_listener(FREE, 'a', 'z')
        self.same(guarded_book(book, pair), slow_guarded(book, [pair]))

    def test_nothing_changes(self):
        book, pairs = EITHER, [('a', HEARD[:1] + (('x',), DONE)), ('b', NEVER)]
        before = repr((book, pairs))
        guarded_book(book, *pairs)
        self.same(repr((book, pairs)), before)
