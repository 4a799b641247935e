"""Promises [54] to [56] and [62], and guarantee (T8): listeners, and the papers that show who has to listen."""

import random
from itertools import combinations

from toldall.bookchanges import with_listener
from toldall.bookclasses import Book
from toldall.deciding import holds_always
from toldall.holding import holds_at
from toldall.listenerchecker import lets_listeners
from toldall.listening import greatest_others, least_listeners, listener_paper, possible_listeners
from toldall.merging import parting_row
from toldall.runs import is_run
from toldall.tables import told_tables
from toldall.walkers import Walker
from tests.cases import BOTH, EITHER, FREE, LOOSE, ODD_DEEP, Case, slow_runs
from tests.papers import listened, put, slow_listener_fault, slow_pool_sets
from tests.sayings import (DONE, HEARD, NO_SAYINGS, PLACES, Slow, chain, finite_books, parties_of_book, some_positive,
                           some_put_together)
from tests.test_bookchanges import NO_BOOKS
from tests.test_runs import FOUR
from tests.told import check_tables, others_tables, slow_truth

TOLD = ('or', ('not', ('done', 'a', 1)), ('knows', ('y',), ('done', 'a', 1)))
POOL = (('a', 'y'), ('b', 'x'))
# z hears of a, or hears that y did.
BOTHER = ('or', ('not', DONE), ('or', ('knows', ('z',), DONE), ('knows', ('y',), DONE)))
WIDE = (('a', 'y'), ('a', 'z'), ('m', 'z'), ('n', 'x'))

NO_POOLS = (*[odd for odd in ODD_DEEP if odd != () or isinstance(odd, list)], POOL[::-1], POOL + POOL, POOL[:1] * 2,
            list(POOL), (['a', 'y'],), (('a', 'x'),), (('b', 'y'),), (('a', 'z'),), (('c', 'x'),), ('a', 'y'),
            (('a', 'y', 'y'),), (('a',),), (('a', 'y'), None), (('a', 'y'), ('b', 'y')), ((True, 'y'),), 'a', EITHER, (EITHER,))


def slow_parted(sets, holding):
    """The least sets that hold and the greatest that do not, each as a set."""
    least = [each for each in sets if each in holding
             and not any(set(other) < set(each) for other in holding)]
    others = [each for each in sets if each not in holding
              and not any(set(each) < set(other) for other in sets if other not in holding)]
    return tuple(sorted(least)), tuple(sorted(others))


def some_pool(dice, book, most=3):
    every = possible_listeners(book)
    return tuple(sorted(dice.sample(every, min(len(every), dice.randrange(most + 1)))))


def cases(seed, sizes=(0, 1, 1, 2)):
    """Books, positive sayings and pools, some of which need listeners."""
    dice = random.Random(seed)
    found = [(EITHER, TOLD, POOL), (FREE, BOTHER, WIDE), (FREE, TOLD, WIDE[:2]), (BOTH, TOLD, POOL), (EITHER, TOLD, ())]
    for book in (*finite_books(seed + 1, 3), *some_put_together(seed + 2, 3, False, deeds=3, parts=2, states=6)):
        for depth in sizes:
            saying = some_positive(dice, book, depth, 4)
            part = ('not', ('done', dice.choice(book[0])[0], 1))
            # So that it holds at some runs at least.
            found.append((book, dice.choice((saying, ('or', part, saying))), some_pool(dice, book)))
        name, own = dice.choice(book[0])
        away = [party for party in parties_of_book(book) if party not in own]
        if away:
            told = ('or', ('not', ('done', name, 1)), ('knows', (away[0],), ('done', name, 1)))
            found.append((book, told, some_pool(dice, book)))
    return found


class ListeningTest(Case):

    def test_document(self):
        self.same(possible_listeners(EITHER), POOL)
        self.same([POOL, least_listeners(EITHER, TOLD, POOL), greatest_others(EITHER, TOLD, POOL)],
                  [(('a', 'y'), ('b', 'x')), ((('a', 'y'),),), ((('b', 'x'),),)])
        self.same(lets_listeners(EITHER, TOLD, POOL, listener_paper(EITHER, TOLD, POOL)), ((('a', 'y'),),))

    def test_possible_listeners(self):
        self.same(possible_listeners(FREE), (('a', 'y'), ('a', 'z'), ('m', 'z'), ('n', 'x')))
        self.same(possible_listeners(((('a', ('x',)),), ((),))), ())
        for book in (FREE, EITHER, *finite_books(261, 3), *some_put_together(262, 3, False)):
            wanted = []
            for name, own in book[0]:
                for party in parties_of_book(book):
                    if party not in own:
                        wanted.append((name, party))
                        self.same(party in dict(with_listener(book, name, party)[0])[name], True)
            self.same(possible_listeners(book=book), tuple(wanted))
            self.same(wanted, sorted(wanted))

    def test_by_hand(self):
        self.same(least_listeners(FREE, BOTHER, WIDE), ((('a', 'y'),), (('a', 'z'),)))
        self.same(greatest_others(FREE, BOTHER, WIDE), ((('m', 'z'), ('n', 'x')),))
        always, never = ('or', DONE, ('not', DONE)), ('and', DONE, ('not', DONE))
        for pool in ((), POOL[:1], POOL):
            self.same([least_listeners(EITHER, always, pool), greatest_others(EITHER, always, pool)], [((),), ()])
            self.same([least_listeners(EITHER, never, pool), greatest_others(EITHER, never, pool)], [(), (pool,)])
        together = ('and', TOLD, ('or', ('not', ('done', 'b', 1)), ('knows', ('x',), ('done', 'b', 1))))
        self.same([least_listeners(EITHER, together, POOL), greatest_others(EITHER, together, POOL)],
                  [(POOL,), (POOL[:1], POOL[1:])])
        # Of a book in which a and b bar each other, who listens to the one knows of the other.
        either = ('or', ('not', DONE), ('knows', ('y',), ('or', DONE, ('done', 'b', 1))))
        self.same(least_listeners(EITHER, either, POOL[1:]), ())

    def test_sets_ascend_as_tuples(self):
        # x and y hear of a, or w of d: the set with two listeners is the least tuple.
        told = ('or', ('not', DONE), ('and', ('knows', ('x',), DONE), ('knows', ('y',), DONE)))
        saying = ('or', told, ('or', ('not', ('done', 'd', 1)), ('knows', ('w',), ('done', 'd', 1))))
        pool = (('a', 'x'), ('a', 'y'), ('d', 'w'))
        self.same([least_listeners(FOUR, saying, pool), greatest_others(FOUR, saying, pool)],
                  [(pool[:2], pool[2:]), (pool[:1], pool[1:2])])
        paper = listener_paper(FOUR, saying, pool)
        self.same(lets_listeners(FOUR, saying, pool, paper), (pool[:2], pool[2:]))
        self.bad_paper('set', (0, 1), lets_listeners, FOUR, saying, pool, (paper[0][::-1], paper[1]))

    def test_against_all_sets_of_the_pool(self):
        told = {}
        for book, saying, pool in cases(263):
            sets = slow_pool_sets(pool)
            holding = [each for each in sets if holds_always(listened(book, each), saying)]
            least, others = slow_parted(sets, holding)
            self.same([least_listeners(book, saying, pool), greatest_others(book, saying, pool)], [least, others])
            kind = (min(len(least), 2), min(len(others), 2))
            told[kind] = told.get(kind, 0) + 1
            # What holds with some listeners holds with more.
            for each in sets:
                self.same(each in holding, any(set(one) <= set(each) for one in least))
                self.same(each not in holding, any(set(each) <= set(one) for one in others))
        self.assertTrue({(0, 1), (1, 0), (1, 1)} <= set(told) and min(len(told), 5) > 3, told)

    def test_against_all_runs(self):
        told = {True: 0, False: 0}
        dice = random.Random(264)
        for book in finite_books(265, 4):
            for depth in (1, 1, 2):
                saying = ('or', ('not', ('done', dice.choice(book[0])[0], 1)), some_positive(dice, book, depth, 3))
                pool = some_pool(dice, book, 2)
                sets = slow_pool_sets(pool)
                holding = []
                for each in sets:
                    slow = Slow(listened(book, each))
                    if all(slow.holds(saying, run) for run in slow.runs):
                        holding.append(each)
                    told[each in holding] += 1
                self.same((least_listeners(book, saying, pool), greatest_others(book, saying, pool)),
                          slow_parted(sets, holding))
        self.assertTrue(min(told.values()) > 5, told)

    def test_pools_of_four(self):
        for saying in (BOTHER, ('or', ('not', DONE), ('knows', ('y',), ('knows', ('z',), DONE))),
                       ('or', ('not', ('done', 'm', 1)), ('knows', ('z',), ('or', ('done', 'm', 1), HEARD)))):
            sets = slow_pool_sets(WIDE)
            holding = [each for each in sets if holds_always(listened(FREE, each), saying)]
            self.same((least_listeners(FREE, saying, WIDE), greatest_others(FREE, saying, WIDE)), slow_parted(sets, holding))

    def test_a_listener_more(self):
        dice = random.Random(266)
        for book in (FREE, EITHER, LOOSE, *finite_books(267, 3), *some_put_together(268, 3, False, deeds=3, states=8)):
            every = possible_listeners(book)
            if not every:
                continue
            more = with_listener(book, *dice.choice(every))
            self.same(parting_row(book, (book[0], more[1])), None)
            for depth in (0, 1, 2):
                saying = some_positive(dice, book, depth, 4)
                for run in [run for length in range(4) for run in slow_runs(book, length)][:15]:
                    self.same(is_run(more, run), True)
                    if holds_at(book, saying, run):
                        self.same(holds_at(more, saying, run), True)

    def test_first_parameter_that_cannot_be_used(self):
        for function in (least_listeners, greatest_others, listener_paper):
            self.check_parameters(function)
        self.check_parameters(lambda book, saying, pool: lets_listeners(book, saying, pool, None))
        for odd in (*NO_BOOKS, Book(*EITHER)):
            self.unusable('book', possible_listeners, odd)

    def check_parameters(self, function):
        for odd in (*NO_BOOKS, Book(*EITHER)):
            self.unusable('book', function, odd, TOLD, POOL)
            self.unusable('book', function, odd, odd, odd)
        not_known = ('not', ('knows', ('x',), DONE))
        for odd in (*NO_SAYINGS, not_known, ('knows', ('y',), not_known), ('and', DONE, ('not', ('not', not_known)))):
            self.unusable('saying', function, FREE, odd, WIDE)
            self.unusable('saying', function, FREE, odd, odd)
        for odd in (*NO_POOLS, Book(*EITHER)):
            self.unusable('pool', function, EITHER, TOLD, odd)
        self.unusable('pool', function, FREE, HEARD, (('a', 'y'), ('m', 'y')))

    def test_positive_sayings_with_not(self):
        saying = ('not', ('and', DONE, ('not', ('knows', ('y',), DONE))))
        self.same(least_listeners(EITHER, saying, POOL), (POOL[:1],))
        self.same(lets_listeners(EITHER, saying, POOL, listener_paper(EITHER, saying, POOL)), (POOL[:1],))

    def test_sayings_with_at(self):
        saying = ('or', ('at', (0, 2)), ('knows', ('y',), ('at', (1,))))
        self.same([least_listeners(EITHER, saying, POOL), greatest_others(EITHER, saying, POOL)], [(POOL[:1],), (POOL[1:],)])

    def test_arguments_by_name(self):
        before = repr((EITHER, TOLD, POOL))
        paper = listener_paper(pool=POOL, saying=TOLD, book=EITHER)
        self.same([least_listeners(pool=POOL, saying=TOLD, book=EITHER), greatest_others(saying=TOLD, pool=POOL, book=EITHER),
                   lets_listeners(thing=paper, pool=POOL, saying=TOLD, book=EITHER)],
                  [(POOL[:1],), (POOL[1:],), (POOL[:1],)])
        self.same(repr((EITHER, TOLD, POOL)), before)


class ListenerPaperTest(Case):

    def check(self, book, saying, pool, thing):
        """The checker says of a value what the document says; the word of the fault is returned, or None."""
        fault = slow_listener_fault(book, saying, pool, thing)
        if fault is None:
            self.same(lets_listeners(book, saying, pool, thing), tuple(listeners for listeners, tables in thing[0]))
            self.same(lets_listeners(book, saying, pool, thing), least_listeners(book, saying, pool))
            return None
        self.bad_paper(fault[0], fault[1], lets_listeners, book, saying, pool, thing)
        return fault[0]

    def test_returned_papers(self):
        for book, saying, pool in cases(271):
            paper = listener_paper(book, saying, pool)
            self.same([paper.__class__, len(paper), paper[0].__class__, paper[1].__class__], [tuple, 2, tuple, tuple])
            self.same([tuple(own for own, tables in papers) for papers in paper],
                      [least_listeners(book, saying, pool), greatest_others(book, saying, pool)])
            for papers, wanted in zip(paper, (True, False)):
                for own, tables in papers:
                    more = listened(book, own)
                    check_tables(self, more, saying, tables)
                    truths = [slow_truth(more, saying, tables, len(tables) - 1, k) for k in range(len(tables[-1]))]
                    self.same(all(truths), wanted)
            self.same(self.check(book, saying, pool, paper), None)

    def tables(self, book, saying, own):
        return (own, told_tables(listened(book, own), saying))

    def test_changed_papers(self):
        dice = random.Random(272)
        told = {}
        for book, saying, pool in cases(273):
            paper = listener_paper(book, saying, pool)
            others = [self.tables(book, saying, own) for own in slow_pool_sets(pool)]
            things = [(paper[0], ()), ((), paper[1]), paper[::-1], (paper[0] * 2, paper[1]), (paper[0], paper[1] * 2),
                      (paper[0][::-1], paper[1]), (paper[0], paper[1][::-1]), (paper[0][1:], paper[1][:-1]),
                      (paper[0], tuple(others)), (tuple(others), paper[1]), (tuple(sorted(others)), ()), ((), ())]
            for _ in range(4):
                one, other = dice.choice(others), dice.choice(others)
                for i in range(2):
                    mixed = tuple(sorted((*paper[i], one)))
                    things += [put(paper, (i,), mixed), put(paper, (i,), (one, other)), put(paper, (i,), (one,)),
                               put(paper, (i,), tuple((own, one[1]) for own, tables in paper[i])),
                               put(paper, (i,), ((one[0], other[1]),)),
                               put(paper, (i,), (*paper[i], (one[0][::-1], one[1]))), put(paper, (i,), (*paper[i], (one[0], ())))]
            for thing in things:
                word = self.check(book, saying, pool, thing)
                told[word] = told.get(word, 0) + 1
        self.assertTrue(set(told) == {None, 'set', 'twin', 'tables', 'left'} and min(told.values()) > 10, told)

    def test_two_faults(self):
        dice = random.Random(274)
        told = set()
        for book, saying, pool in cases(275, (1,)):
            paper = listener_paper(book, saying, pool)
            others = [self.tables(book, saying, own) for own in slow_pool_sets(pool)]
            odds = [(None, ()), ((), None), (pool[::-1] + pool, ()), *others, (others[-1][0], others[0][1])]
            for _ in range(25):
                thing = tuple(tuple(dice.sample(papers, dice.randrange(len(papers) + 1))) for papers in paper)
                thing = put(thing, (dice.randrange(2),), tuple(dice.choice(odds) for _ in range(2)))
                told.add(self.check(book, saying, pool, thing))
        self.assertTrue({'set', 'twin', 'tables', 'left'} <= told, told)

    def test_words_by_hand(self):
        paper = listener_paper(EITHER, TOLD, POOL)
        low, high = (self.tables(EITHER, TOLD, own) for own in ((), POOL))
        (one,), (two,) = paper
        for thing, word, at in (
                (((one,), (two,), ()), 'shape', -1), (((one,), [two]), 'shape', -1), (((one,), (two, two[1:])), 'shape', -1),
                (((list(one),), (two,)), 'shape', -1), (((one, None), (two,)), 'shape', -1), (((None,), (None,)), 'shape', -1),
                (((([],), one), ()), 'shape', -1), ((((None, one[1]),), (two,)), 'set', (0, 0)),
                (((one,), ((list(two[0]), two[1]),)), 'set', (1, 0)), ((((POOL[::-1], one[1]), one), (two,)), 'set', (0, 0)),
                (((one, one), (two,)), 'set', (0, 1)), (((one, low), (two,)), 'set', (0, 1)),
                (((one,), (two, low)), 'set', (1, 1)), (((low, one), (two,)), 'tables', (0, 0)),
                (((one, high), (two,)), 'twin', (0, 0, 1)), (((one,), (low, two)), 'twin', (1, 0, 1)),
                (((one,), (low, high)), 'twin', (1, 0, 1)), (((one, (POOL, None)), (two,)), 'twin', (0, 0, 1)),
                ((((one[0], None),), (two,)), 'tables', (0, 0)), ((((one[0], two[1]),), (two,)), 'tables', (0, 0)),
                (((one,), ((two[0], one[1]),)), 'tables', (1, 0)), (((two,), (one,)), 'tables', (0, 0)),
                (((), (two, one)), 'set', (1, 1)), (((), (one, two)), 'tables', (1, 0)), (((), ()), 'left', ()),
                (((one,), ()), 'left', ()), (((one,), (low,)), 'left', POOL[1:]), (((), (two,)), 'left', POOL[:1]),
                (((high,), (two,)), 'left', POOL[:1]), (((high,), (low,)), 'left', POOL[:1]),
                ((((POOL[:1] * 2, one[1]),), (two,)), 'set', (0, 0)), ((((('a', 'y'), one[1]),), (two,)), 'set', (0, 0))):
            self.bad_paper(word, at, lets_listeners, EITHER, TOLD, POOL, thing)
            self.same(slow_listener_fault(EITHER, TOLD, POOL, thing), (word, at))
        # A listener of the book that is not one of the pool.
        self.bad_paper('set', (0, 0), lets_listeners, EITHER, TOLD, POOL[1:], paper)
        self.bad_paper('set', (1, 0), lets_listeners, EITHER, TOLD, POOL[:1], paper)

    def test_which_set_is_left(self):
        # By size, then ascending: not the least tuple, that is WIDE[:2].
        lists = [self.tables(FREE, BOTHER, own) for own in ((), WIDE[:1])]
        self.bad_paper('left', WIDE[1:2], lets_listeners, FREE, BOTHER, WIDE, (tuple(lists[1:]), ((lists[0]),)))
        one = tuple(self.tables(FREE, BOTHER, own) for own in (WIDE[:1], WIDE[1:2]))
        self.bad_paper('left', (WIDE[3],), lets_listeners, FREE, BOTHER, WIDE,
                       (one, (self.tables(FREE, BOTHER, (WIDE[2],)),)))
        self.bad_paper('left', WIDE[2:], lets_listeners, FREE, BOTHER, WIDE,
                       (one, tuple(self.tables(FREE, BOTHER, (each,)) for each in WIDE[2:])))

    def test_the_sets_that_papers_show_are_the_only_ones(self):
        many = 0
        for book, saying, pool in ((EITHER, TOLD, POOL), (BOTH, TOLD, POOL), (FREE, TOLD, WIDE[:2]), (EITHER, TOLD, ())):
            every = sorted(self.tables(book, saying, own) for own in slow_pool_sets(pool))
            chosen = [each for size in range(len(every) + 1) for each in combinations(every, size)]
            accepted = [(one, other) for one in chosen for other in chosen
                        if self.check(book, saying, pool, (one, other)) is None]
            self.same(accepted, [listener_paper(book, saying, pool)])
            many += 1
        self.same(many, 4)

    def test_papers_with_other_tables(self):
        tried = 0
        for book, saying, pool in cases(276):
            paper = listener_paper(book, saying, pool)
            others = [[others_tables(listened(book, own), saying, lambda note, name: not note) for own, tables in papers]
                      for papers in paper]
            if max([len(level) for papers in others for tables in papers for level in tables], default=0) <= 40:
                tried += 1
                thing = tuple(tuple((own, tables) for (own, old), tables in zip(papers, news))
                              for papers, news in zip(paper, others))
                self.same(self.check(book, saying, pool, thing), None)
        self.assertTrue(tried > 10, tried)

    def test_any_value(self):
        for odd in (*ODD_DEEP, Book(*FREE), Walker(FREE), FREE, POOL):
            if odd not in (((), ()), ('', '')):
                self.same(slow_listener_fault(EITHER, TOLD, POOL, odd), ('shape', -1))
                self.bad_paper('shape', -1, lets_listeners, EITHER, TOLD, POOL, odd)
                self.bad_paper('shape', -1, lets_listeners, EITHER, TOLD, POOL, (odd, odd, odd))
                self.bad_paper('shape', -1, lets_listeners, EITHER, TOLD, POOL, ((odd,), (odd, ())))
            self.bad_paper('tables', (0, 0), lets_listeners, EITHER, TOLD, POOL, (((POOL[:1], odd),), ()))
            self.bad_paper('tables', (1, 0), lets_listeners, EITHER, TOLD, POOL, ((), ((POOL[1:], odd),)))
            if odd != () or isinstance(odd, list):
                self.bad_paper('set', (0, 0), lets_listeners, EITHER, TOLD, POOL, (((odd, odd),), ()) if odd != POOL else (
                    ((list(odd), odd),), ()))
        self.bad_paper('left', (), lets_listeners, EITHER, TOLD, POOL, ((), ()))

    def test_depth_and_size(self):
        saying = ('or', ('not', DONE), chain('knows', 1, ('knows', ('y',), DONE)))
        paper = listener_paper(EITHER, saying, POOL)
        self.same([lets_listeners(EITHER, saying, POOL, paper), self.check(EITHER, saying, POOL, paper)],
                  [(POOL[:1],), None])
        self.same(self.check(PLACES, saying, POOL, listener_paper(PLACES, saying, POOL)), None)
