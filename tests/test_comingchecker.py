"""Promise [49]: the checker of coming papers."""

import random

from toldall.bookclasses import Book
from toldall.coming import coming_paper, knows_from
from toldall.comingchecker import lets_coming
from toldall.walkers import Walker
from tests.cases import BOTH, EITHER, FREE, LOOSE, ODD_DEEP, Case
from tests.papers import paths_in, put, slow_coming_fault, tables_of, value_at
from tests.sayings import (DONE, HEARD, NO_SAYINGS, PLACES, finite_books, parties_of_book, saying_of_depth,
                           some_put_together)
from tests.test_bookchanges import NO_BOOKS
from tests.test_coming import FIRST, MEET, NEVER, THEN
from tests.test_pasts import NO_PARTIES
from tests.told import names_in, others_tables, walk

ALWAYS = ('or', DONE, ('not', DONE))
WORDS = ('shape', 'stand', 'first', 'next', 'name', 'allowed', 'known', 'bound', 'ring', 'run')


def cases(seed, many=4):
    """Books, parties and sayings, with papers of all forms."""
    dice = random.Random(seed)
    books = [EITHER, BOTH, PLACES, FREE, LOOSE, THEN, FIRST, *finite_books(seed + 1, 2)[3:],
             *some_put_together(seed + 2, 3, False, deeds=3, parts=2, states=8)]
    found = [(EITHER, 'x', NEVER), (EITHER, 'y', NEVER), (FREE, 'z', DONE), (FREE, 'x', ALWAYS), (THEN, 'x', NEVER),
             (MEET, 'x', ('not', ('knows', ('y',), ('done', 'b', 1)))), (FIRST, 'x', ('done', 'a', 2))]
    for book in books:
        for depth in [0, 1, 1, 0][:many]:
            found.append((book, dice.choice(parties_of_book(book)), saying_of_depth(dice, book, depth, 4)))
    return found


class ComingCheckerTest(Case):

    def check(self, book, party, saying, thing):
        """The checker says of a value what the document says; the word of the fault, or of the paper, is returned."""
        fault = slow_coming_fault(book, party, saying, thing)
        if fault is None:
            wanted = {'always': 0, 'ring': None}.get(thing[0], thing[0] == 'most' and thing[1] + 1)
            self.same(lets_coming(book, party, saying, thing), wanted)
            self.same(knows_from(book, party, saying), wanted)
            return thing[0]
        self.bad_paper(fault[0], fault[1], lets_coming, book, party, saying, thing)
        return fault[0]

    def check_all(self, book, party, saying, things):
        return [self.check(book, party, saying, thing) for thing in things]

    def test_document(self):
        self.same(lets_coming(EITHER, 'x', NEVER, coming_paper(EITHER, 'x', NEVER)), 1)
        self.same(lets_coming(EITHER, 'y', NEVER, coming_paper(EITHER, 'y', NEVER)), 2)
        self.same(lets_coming(FREE, 'z', DONE, coming_paper(FREE, 'z', DONE)), None)
        self.same(lets_coming(FREE, 'x', ALWAYS, coming_paper(FREE, 'x', ALWAYS)), 0)

    def test_returned_papers(self):
        told = {}
        for book, party, saying in cases(201):
            word = self.check(book, party, saying, coming_paper(book, party, saying))
            told[word] = told.get(word, 0) + 1
        self.assertTrue(set(told) == {'always', 'most', 'ring'} and min(told.values()) > 4, told)

    def test_papers_of_other_parties_sayings_and_books(self):
        told = set()
        given = cases(202, 2)
        for book, party, saying in given:
            for other, one, about in given[:9]:
                if other == book:
                    for each in parties_of_book(book):
                        told.add(self.check(book, each, saying, coming_paper(book, one, about)))
                told.add(self.check(book, party, saying, coming_paper(other, one, about)))
        self.assertTrue({'shape', 'known', 'bound', 'next', 'run', 'ring', 'always', 'most'} <= told, told)

    def test_every_value_changed(self):
        told = {}
        for book, party, saying in cases(203, 1):
            paper = coming_paper(book, party, saying)
            places = [path for path in paths_in(paper) if value_at(paper, path[:1]) is not tables_of(paper)]
            for path in places:
                value = value_at(paper, path)
                others = (None, (), [], True, -1, 'a', ('a',), ('a', 'zz')) if isinstance(value, tuple) else (
                    None, 'a', 'b', 'zz', 'sure', 'always', 'most', 'ring', 0, 1, 2, 10 ** 59, True, False, -1, (), ['a'])
                for word in self.check_all(book, party, saying, [put(paper, path, other) for other in others]):
                    told[word] = told.get(word, 0) + 1
            self.check_all(book, party, saying, [(*paper, ()), paper[:-1], list(paper), paper[::-1], (paper,)])
        self.assertTrue(set(WORDS) - set(told) == {'stand', 'first', 'next', 'known'}, told)

    def test_tables_changed(self):
        told = {}
        dice = random.Random(204)
        for book, party, saying in cases(205, 1):
            paper = coming_paper(book, party, saying)
            at = paper.index(tables_of(paper))
            places = paths_in(paper[at])
            for path in dice.sample(places, min(25, len(places))):
                value = value_at(paper[at], path)
                other = dice.choice((None, (), value[:1])) if isinstance(value, tuple) else dice.choice((-1, 0, value + 1, None))
                word = self.check(book, party, saying, put(paper, (at, *path), other))
                told[word] = told.get(word, 0) + 1
        self.assertTrue(min(told.get(word, 0) for word in ('shape', 'stand', 'next')) > 3 and 'first' in told, told)

    def test_two_changes(self):
        dice = random.Random(206)
        told = {}
        for book, party, saying in cases(207):
            paper = coming_paper(book, party, saying)
            for _ in range(30):
                thing = paper
                for _ in range(2):
                    path = dice.choice([each for each in paths_in(thing) if len(each) < 4])
                    thing = put(thing, path, self.other_value(dice, book, value_at(thing, path)))
                    if not thing:
                        break
                word = self.check(book, party, saying, thing)
                told[word] = told.get(word, 0) + 1
        self.assertTrue(min(told.get(word, 0) for word in set(WORDS) - {'first', 'known'}) > 2, told)

    def other_value(self, dice, book, value):
        if isinstance(value, tuple):
            return dice.choice((value[:-1], (*value, *value[:1]), (*value, dice.choice(names_in(book))), None))
        if isinstance(value, str):
            return dice.choice((*names_in(book), None, 0, 1, 'sure'))
        return dice.choice((max(value, 0), value + 1, 'sure', None))

    def test_papers_that_are_written_otherwise(self):
        told = []
        for book, party, saying in cases(208):
            paper = coming_paper(book, party, saying)
            known = ('knows', (party,), saying)
            others = others_tables(book, known, lambda note, name: not note)
            if max([len(level) for level in others]) > 60:
                continue
            if paper[0] == 'always':
                told += self.check_all(book, party, saying, [('always', others)])
            elif paper[0] == 'most':
                told += self.check_all(book, party, saying, self.other_most_papers(book, paper, others))
            else:
                told += self.check_all(book, party, saying, self.other_rings(book, paper, others))
        self.assertTrue(min(told.count(word) for word in ('always', 'most', 'ring')) > 5, told)

    def other_most_papers(self, book, paper, others):
        """The paper with bounds by other tables, with greater bounds, and some that do not fit."""
        word, number, run, tables, bounds = paper
        places, waiting = {0: 0}, [0]
        for at in waiting:
            for end, stand in zip(others[-1][at][-1], tables[-1][places[at]][-1]):
                if end != -1 and end not in places:
                    places[end] = stand
                    waiting.append(end)
        same = tuple(bounds[places[k]] for k in range(len(others[-1])))
        more = tuple(bound if bound == 'sure' else bound + 1 for bound in bounds)
        loose = tuple(10 ** 9 if bound == 'sure' else bound for bound in bounds)
        return [(word, number, run, others, same), (word, number, run, tables, more), (word, number, run, tables, loose),
                (word, number + 1, run, tables, bounds), (word, number + 1, run, tables, more)]

    def other_rings(self, book, paper, others):
        word, run, ring, rest, tables = paper
        found = [(word, run, ring * 2, rest, tables), (word, run, ring, ring + rest, tables),
                 (word, run + ring, ring, rest, tables), (word, run + ring, ring * 3, rest, tables),
                 (word, run, ring, rest, others), (word, run, (), rest, tables)]
        # In other tables rows may have to be gone twice until they lead to the same stand.
        if walk(book, others[-1], run) == walk(book, others[-1], run + ring * 2):
            found.append((word, run, ring * 2, rest, others))
        return found

    def test_equal_stands_are_not_the_same_stand(self):
        book = ((('a', ('x',)), ('m', ('x', 'y'))), ((('a', 0), ('m', 0)),))
        low = ((0, (0,), (1, 0)), (0, (1,), (1, 1)))
        # The links are of x, of y, and of both; the stands 1 and 2 are equal.
        high = (((0, 0, 0), (1, 0)), ((1, 0, 1), (2, 3)), ((1, 0, 1), (2, 3)), ((1, 1, 1), (3, 3)))
        tables = (low, high)
        self.same(lets_coming(book, 'x', ('not', DONE), ('ring', ('a', 'a'), ('a',), (), tables)), None)
        self.bad_paper('ring', -1, lets_coming, book, 'x', ('not', DONE), ('ring', ('a',), ('a',), (), tables))
        self.same(slow_coming_fault(book, 'x', ('not', DONE), ('ring', ('a',), ('a',), (), tables)), ('ring', -1))
        self.same(slow_coming_fault(book, 'x', ('not', DONE), ('ring', ('a',), ('a', 'a'), (), tables)), ('ring', -1))
        self.bad_paper('ring', -1, lets_coming, book, 'x', ('not', DONE), ('ring', ('a',), ('a', 'a'), (), tables))

    def test_words_by_hand(self):
        word, number, run, tables, bounds = coming_paper(EITHER, 'y', NEVER)
        self.same([word, number, run, bounds], ['most', 1, ('b',), (0, 'sure', 1)])
        bounds = (0, 0, 1)
        for thing, fault, at in (
                (('most', True, run, tables, bounds), 'shape', -1), (('most', -1, run, tables, bounds), 'shape', -1),
                (('most', '1', run, tables, bounds), 'shape', -1), (('most', number, 'b', tables, bounds), 'shape', -1),
                (('most', number, ['b'], tables, bounds), 'shape', -1),
                (('most', number, run, tables, (0, 0, True)), 'shape', -1), (('most', number, run, tables, (0, 0, -1)), 'shape', -1),
                (('most', number, run, tables, (0, 0, 'Sure')), 'shape', -1), (('most', number, run, tables, 'sure'), 'shape', -1),
                (('most', number, run, tables, [0, 0, 1]), 'shape', -1), (('ring', run, run, 'b', tables), 'shape', -1),
                (('ring', run, ['b'], run, tables), 'shape', -1), (('ring', None, run, run, tables), 'shape', -1),
                (('always', tables, ()), 'shape', -1), (('always',), 'shape', -1), (('never', tables), 'shape', -1),
                (('most', number, run, tables), 'shape', -1), ((['always'], tables), 'shape', -1),
                (('always', None), 'shape', -1), (('most', number, ('c',), None, ()), 'shape', -1),
                (('always', (tables[0][:1], tables[1])), 'stand', (0, 0)), (('always', tables), 'known', 2),
                (('most', number, ('b', 'b'), tables, ()), 'allowed', 1), (('most', number, (True,), tables, ()), 'name', 0),
                (('most', number, ('a', 'c'), tables, ()), 'name', 1), (('most', number, (), tables, ()), 'bound', -1),
                (('most', number, (), tables, bounds[:2]), 'bound', -1), (('most', number, (), tables, (*bounds, 2)), 'bound', -1),
                (('most', number, (), tables, ('sure', 'sure', 2)), 'bound', -1), (('most', number, (), tables, (0, 0, 0)), 'bound', 0),
                (('most', number, (), tables, (0, 'sure', 'sure')), 'bound', 2), (('most', number, (), tables, (0, 5, 2)), 'bound', 2),
                (('most', number, (), tables, (1, 0, 2)), 'bound', 0), (('most', number, (), tables, (0, 'sure', 1)), 'run', -1),
                (('most', number, ('a',), tables, (0, 7, 1)), 'run', -1), (('most', 2, run, tables, bounds), 'run', -1),
                (('most', 0, run, tables, (0, 0, 1)), 'bound', 2),
                (('ring', ('b', 'a'), ('c',), ('c',), tables), 'allowed', 1), (('ring', (), ('a', 'a'), (0,), tables), 'allowed', 1),
                (('ring', ('b',), ('zz',), (0,), tables), 'name', 1), (('ring', (), ('a',), ('b', 0), tables), 'name', 1),
                (('ring', (), ('b',), (), tables), 'ring', -1), (('ring', (), (), ('a',), tables), 'ring', -1),
                (('ring', ('b',), (), ('b',), tables), 'allowed', 1)):
            self.bad_paper(fault, at, lets_coming, EITHER, 'y', NEVER, thing)
            self.same(slow_coming_fault(EITHER, 'y', NEVER, thing), (fault, at))
        self.same(lets_coming(EITHER, 'y', NEVER, ('most', 1, ('b',), tables, (0, 'sure', 1))), 2)
        self.same(lets_coming(EITHER, 'y', NEVER, ('most', 1, ('b',), tables, (0, 9, 1))), 2)

    def test_ring_behind_which_the_party_knows(self):
        word, run, ring, rest, tables = coming_paper(FREE, 'x', DONE)
        self.same(lets_coming(FREE, 'x', DONE, ('ring', (), ('m',), ('n', 'm'), tables)), None)
        self.bad_paper('run', -1, lets_coming, FREE, 'x', DONE, ('ring', (), ('m',), ('a',), tables))
        self.bad_paper('run', -1, lets_coming, FREE, 'x', DONE, ('ring', ('a',), ('a',), (), tables))
        self.bad_paper('ring', -1, lets_coming, FREE, 'x', DONE, ('ring', (), ('n',), ('a',), tables))
        self.bad_paper('ring', -1, lets_coming, FREE, 'x', DONE, ('ring', (), ('a',), ('a',), tables))

    def test_run_behind_which_the_party_knows(self):
        # x does a or c, once.
        book = ((('a', ('x',)), ('c', ('x',))), ((('a', 1), ('c', 2)), (), ()))
        word, number, run, tables, bounds = coming_paper(book, 'x', DONE)
        self.same([word, number, run, lets_coming(book, 'x', DONE, (word, number, run, tables, bounds))], ['most', 1, ('c',), 2])
        self.bad_paper('run', -1, lets_coming, book, 'x', DONE, (word, number, ('a',), tables, bounds))
        self.bad_paper('run', -1, lets_coming, book, 'x', DONE, (word, number, (), tables, bounds))

    def test_shapes_come_ahead_of_tables(self):
        word, number, run, tables, bounds = coming_paper(EITHER, 'y', NEVER)
        bad = (tables[0][:1], tables[1])
        self.bad_paper('stand', (0, 0), lets_coming, EITHER, 'y', NEVER, (word, number, run, bad, bounds))
        for thing in ((word, number, 'b', bad, bounds), (word, number, ['b'], bad, bounds), (word, True, run, bad, bounds),
                      (word, number, run, bad, (True,)), (word, number, run, bad, ['sure']), ('ring', 'b', (), (), bad),
                      ('ring', (), 'b', (), bad), ('ring', (), (), ['b'], bad), ('always', bad, ())):
            self.bad_paper('shape', -1, lets_coming, EITHER, 'y', NEVER, thing)

    def test_long_rows(self):
        word, run, ring, rest, tables = coming_paper(FREE, 'z', DONE)
        self.same(lets_coming(FREE, 'z', DONE, ('ring', ('n', 'm') * 150, ('n', 'm', 'n') * 200, ('n',) * 99, tables)), None)

    def test_any_value(self):
        for odd in (*ODD_DEEP, Book(*FREE), Walker(FREE), FREE, HEARD):
            self.bad_paper('shape', -1, lets_coming, FREE, 'x', DONE, odd)
            self.bad_paper('shape', -1, lets_coming, FREE, 'x', DONE, ('always', odd))
            self.bad_paper('shape', -1, lets_coming, FREE, 'x', DONE, (odd, odd))
            self.bad_paper('shape', -1, lets_coming, FREE, 'x', DONE, (odd, 0, (), odd, ()))
            self.bad_paper('shape', -1, lets_coming, FREE, 'x', DONE, ('most', 0, (), odd, (0,)))
            self.bad_paper('shape', -1, lets_coming, FREE, 'x', DONE, ('most', 0, (), (), (odd, [])))
            self.bad_paper('shape', -1, lets_coming, FREE, 'x', DONE, ('ring', (odd,), (odd,), (odd,), odd))
        tables = tables_of(coming_paper(FREE, 'z', DONE))
        for odd in (*ODD_DEEP, Book(*FREE), Walker(FREE)):
            self.bad_paper('name', 1, lets_coming, FREE, 'z', DONE, ('most', 0, ('n', odd), tables, ()))
            self.bad_paper('name', 0, lets_coming, FREE, 'z', DONE, ('ring', (), (odd,), (), tables))

    def test_first_parameter_that_cannot_be_used(self):
        for odd in (*NO_BOOKS, Book(*FREE)):
            self.unusable('book', lets_coming, odd, 'x', DONE, ())
            self.unusable('book', lets_coming, odd, odd, odd, odd)
        for odd in (*NO_PARTIES, 'a', 'w', ('x',)):
            if odd != 'x':
                self.unusable('party', lets_coming, FREE, odd, DONE, ())
                self.unusable('party', lets_coming, FREE, odd, odd, odd)
        for odd in NO_SAYINGS:
            self.unusable('saying', lets_coming, FREE, 'x', odd, ())

    def test_arguments_by_name(self):
        paper = coming_paper(EITHER, 'y', NEVER)
        before = repr(paper)
        self.same(lets_coming(thing=paper, saying=NEVER, party='y', book=EITHER), 2)
        self.same(repr(paper), before)
