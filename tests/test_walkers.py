"""Promises [32] and [33]: runs that are led by hand."""

import random

from toldall.bookclasses import Book
from toldall.errors import NothingToUndo, NotUsable
from toldall.exchanges import are_alike
from toldall.runs import is_run, state_after
from toldall.walkers import Walker
from tests.cases import EITHER, FREE, LOOSE, ODD_DEEP, Case, slow_apart, slow_end, some_books
from tests.test_bookchanges import NO_BOOKS


def state_of(walker):
    return [walker.run_now, walker.state_now, walker.can_now, walker.next_deed]


class Stop(Exception):
    pass


class WalkerTest(Case):

    def walked(self, book, *deeds):
        walker = Walker(book)
        for deed in deeds:
            walker.do(deed)
        return walker

    def test_document(self):
        walker = Walker(EITHER)
        self.same([walker.can_now, walker.do('b'), walker.can_now, walker.back(), walker.tried('a'), walker.next_deed],
                  [('a', 'b'), 2, (), 'b', 1, 'a'])
        walker = Walker(FREE)
        self.same([walker.do('n'), walker.set_next('a'), walker.swap(0), walker.back()], [0, 0, ('a', 'n'), 'n'])

    def test_against_rows(self):
        dice = random.Random(111)
        for book in (FREE, EITHER, LOOSE, *some_books(112, 10, deeds=3, states=3, odds=0.8)):
            walker, run = Walker(book=book), ()
            for _ in range(30):
                can = tuple(name for name, own in book[0] if slow_end(book, (*run, name)) is not None)
                self.same(state_of(walker), [run, slow_end(book, run), can, can[0] if can else None])
                if run and (not can or dice.random() < 0.3):
                    self.same(walker.back(), run[-1])
                    run = run[:-1]
                elif can:
                    name = dice.choice(can)
                    run = (*run, name)
                    self.do_somehow(dice, walker, name, slow_end(book, run))

    def do_somehow(self, dice, walker, name, end):
        way = dice.randrange(5)
        if way == 0:
            self.same(walker.do(deed=name), end)
        elif way == 1:
            self.same(walker.set_next(deed=name), end)
        elif way == 2:
            walker.next_deed = name
        elif way == 3:
            kept = walker
            walker += name
            self.assertIs(walker, kept)
        else:
            self.same([walker.tried(name), walker.do(name)], [end, end])

    def test_deeds_that_are_not_allowed(self):
        for walker in (self.walked(LOOSE, 'a'), self.walked(LOOSE, 'n', 'a', 'n')):
            before = state_of(walker)
            for odd in (*ODD_DEEP, 'a', 'b', 'zz', ('m',), ['m'], Book(*FREE), walker):
                self.unusable('deed', walker.do, odd)
                self.unusable('deed', walker.set_next, odd)
                with self.assertRaises(NotUsable) as caught:
                    walker += odd
                self.same(vars(caught.exception), {'word': 'deed', 'at': -1})
                with self.assertRaises(NotUsable) as caught:
                    walker.next_deed = odd
                self.same(vars(caught.exception), {'word': 'deed', 'at': -1})
                self.same(state_of(walker), before)

    def test_properties_are_only_read(self):
        walker = self.walked(FREE, 'a')
        for name in ('run_now', 'state_now', 'can_now'):
            with self.assertRaises(AttributeError):
                setattr(walker, name, ())
        self.same(walker.run_now, ('a',))

    def test_back(self):
        walker = self.walked(LOOSE, 'n', 'a', 'm')
        self.same([walker.back(), walker.back(), state_of(walker), walker.back()],
                  ['m', 'a', [('n',), 0, ('a', 'n'), 'a'], 'n'])
        for _ in range(2):
            self.refused(NothingToUndo, {'steps': 0}, walker.back)
            self.same(state_of(walker), [(), 0, ('a', 'n'), 'a'])

    def test_swap(self):
        walker = self.walked(FREE, 'n', 'a', 'a', 'm', 'n', 'a')
        self.same([walker.swap(0), walker.swap(k=1), walker.swap(4)],
                  [('a', 'n', 'a', 'm', 'n', 'a'), ('a', 'a', 'n', 'm', 'n', 'a'), ('a', 'a', 'n', 'm', 'a', 'n')])
        before = state_of(walker)
        # The deeds 0 and 1 are the same, 2 and 3 are not apart, nor 3 and 4, and behind deed 5 there is none.
        odds = [odd for odd in ODD_DEEP if odd != 1 or isinstance(odd, bool)]
        for odd in (*odds, 2, 3, 5, 6, 10 ** 59, -1, '1', (1,), walker):
            self.unusable('k', walker.swap, odd)
            self.same(state_of(walker), before)
        for one in (Walker(FREE), self.walked(FREE, 'a')):
            for k in range(3):
                self.unusable('k', one.swap, k)

    def test_swapped_runs_are_alike(self):
        dice = random.Random(113)
        tried = 0
        for book in (FREE, LOOSE, *some_books(114, 12, deeds=4, states=3, odds=0.8)):
            walker = Walker(book)
            for _ in range(8):
                if walker.can_now:
                    walker.do(dice.choice(walker.can_now))
            for k in range(len(walker.run_now) - 1):
                run = walker.run_now
                if slow_apart(book, run[k], run[k + 1]):
                    tried += 1
                    self.same(walker.swap(k), run[:k] + (run[k + 1], run[k]) + run[k + 2:])
                    self.same([are_alike(book, run, walker.run_now), is_run(book, walker.run_now), walker.state_now],
                              [True, True, state_after(book, run)])
                else:
                    self.unusable('k', walker.swap, k)
        self.assertTrue(tried > 10, tried)

    def test_tried(self):
        walker = self.walked(LOOSE, 'n')
        before = state_of(walker)
        self.same([walker.tried(), walker.tried('a'), walker.tried('a', 'm', 'a', 'n'), state_of(walker)], [0, 1, 1, before])
        for k, deeds in ((0, ('m',)), (1, ('a', 'a')), (2, ('a', 'n', 'a', 'm')), (1, ('a', None, 'b')), (2, ('n', 'n', ['a']))):
            self.refused(NotUsable, {'word': 'deeds', 'at': k}, walker.tried, *deeds)
        for odd in (*ODD_DEEP, ('a',), walker):
            self.refused(NotUsable, {'word': 'deeds', 'at': 0}, walker.tried, odd, 'a')
            self.refused(NotUsable, {'word': 'deeds', 'at': 1}, walker.tried, 'a', odd)
        self.same(state_of(walker), before)

    def test_two_walkers(self):
        one, other = Walker(FREE), Walker(FREE)
        one.do('a')
        other += 'n'
        with one.trial():
            one.do('m')
            other.do('n')
        self.same([one.run_now, other.run_now], [('a',), ('n', 'n')])
        self.same([other.back(), one.back(), other.run_now], ['n', 'a', ('n',)])


class TrialTest(Case):

    def test_what_is_done_within_is_taken_back(self):
        walker = Walker(LOOSE)
        walker.do('a')
        with walker.trial() as held:
            self.assertIs(held, walker)
            held.do('m')
            held += 'n'
            self.same([walker.run_now, walker.state_now], [('a', 'm', 'n'), 0])
        self.same([walker.run_now, walker.state_now, walker.can_now], [('a',), 1, ('m', 'n')])

    def test_steps_behind_the_beginning_of_the_block(self):
        walker = Walker(FREE)
        for deed in ('n', 'a', 'm'):
            walker.do(deed)
        with walker.trial():
            self.same([walker.back(), walker.back(), walker.back(), walker.do('m'), walker.run_now],
                      ['m', 'a', 'n', 0, ('m',)])
        self.same(walker.run_now, ('n', 'a', 'm'))
        with walker.trial():
            self.same(walker.swap(0), ('a', 'n', 'm'))
            walker.back()
        self.same(walker.run_now, ('n', 'a', 'm'))

    def test_errors_in_the_block(self):
        walker = Walker(EITHER)
        for error in (Stop, KeyError):
            with self.assertRaises(error):
                with walker.trial():
                    walker.do('a')
                    raise error()
            self.same(walker.run_now, ())
        with self.assertRaises(NotUsable):
            with walker.trial():
                walker.do('b')
                walker.do('b')
        self.same([walker.run_now, walker.can_now], [(), ('a', 'b')])
        for _ in range(2):
            with walker.trial():
                walker.do('a')
                break
        self.same(walker.run_now, ())

    def test_one_trial_within_another(self):
        walker = Walker(FREE)
        walker.do('a')
        with walker.trial():
            walker.do('m')
            with walker.trial():
                walker.back()
                walker.back()
                with walker.trial():
                    walker.do('n')
                self.same(walker.run_now, ())
            self.same(walker.run_now, ('a', 'm'))
            walker.do('n')
        self.same(walker.run_now, ('a',))

    def test_the_block_begins_with_its_first_row(self):
        walker = Walker(FREE)
        trial = walker.trial()
        walker.do('a')
        for _ in range(2):
            with trial:
                walker.do('m')
                with trial:
                    walker.back()
                    walker.back()
                self.same(walker.run_now, ('a', 'm'))
            self.same(walker.run_now, ('a',))

    def test_what_makes_no_walker(self):
        for odd in (*NO_BOOKS, Book(*FREE), Walker(FREE)):
            self.unusable('book', Walker, odd)
            self.unusable('book', Walker, book=odd)
