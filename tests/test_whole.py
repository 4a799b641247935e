"""What holds over the whole program: guarantees (T1) to (T11) where its parts meet, and its errors."""

import importlib
import inspect
import pathlib
import random

import toldall
from toldall import errors
from toldall.coming import coming_paper, knows_from
from toldall.comingchecker import lets_coming
from toldall.deciding import failing_run, holds_always
from toldall.desks import Desk
from toldall.guards import guarded_book
from toldall.holding import holds_at, twin_of, who_know
from toldall.houselogs import replayed
from toldall.housereadings import read_log
from toldall.houses import House
from toldall.housetexts import event_line, log_lines
from toldall.keeping import keeps_itself
from toldall.likeness import are_alike_to
from toldall.listenerchecker import lets_listeners
from toldall.listening import least_listeners, listener_paper, possible_listeners
from toldall.merging import least_machine
from toldall.pasts import past_of
from toldall.sayingclasses import Saying
from toldall.soonest import soonest_row
from toldall.tablechecker import lets_tables
from toldall.tables import told_tables
from toldall.tellingclasses import Telling
from toldall.walkers import Walker
from tests.cases import EITHER, FREE, Case
from tests.housing import THREE, books_of_houses, happened, some_event, some_sayings, state_of
from tests.sayings import DONE, parties_of_book, saying_of_depth, some_positive

PACKAGE = pathlib.Path(toldall.__file__).parent


def modules():
    return [importlib.import_module('toldall.' + path.stem) for path in sorted(PACKAGE.glob('*.py'))
            if path.stem != '__init__']


class WholeTest(Case):

    def guarded_house(self, dice, book):
        """A house with guards and listeners ahead of all deeds."""
        house, saying = House(book), some_sayings(dice, book)
        for _ in range(15):
            event = some_event(dice, book, saying)
            if event[0] in ('listen', 'guard', 'watch') and house.barred(event) is None:
                house.happen(event)
        return house

    def test_house_desk_and_walker_allow_the_same(self):
        dice = random.Random(381)
        steps = 0
        for book in books_of_houses(382):
            house = self.guarded_house(dice, book)
            desk = Desk(book)
            for event in house.log()[1:]:
                desk.say(event_line(event))
            walker = Walker(guarded_book(house.book_now, *house.guards_now))
            for _ in range(7):
                can = walker.can_now
                self.same([house.can_do(), desk.say('can')], [can, ' '.join(can) or '-'])
                for name, own in book[0]:
                    reason = house.barred(('do', name))
                    self.same([reason is None, desk.say('bars do ' + name)], [name in can, reason or '-'])
                self.same([house.run_now, desk.say('run')], [walker.run_now, ' '.join(walker.run_now) or '-'])
                if not can:
                    break
                steps += 1
                deed = dice.choice(can)
                walker.do(deed)
                self.same([house.do_deed(deed), desk.say('do ' + deed)], [len(walker.run_now), str(len(walker.run_now))])
        self.assertTrue(steps > 30, steps)

    def test_a_house_tells_what_the_functions_tell(self):
        dice = random.Random(383)
        for book in books_of_houses(384, 2):
            house = replayed((('house', book), *happened(dice.random(), book).events))
            now, run = house.book_now, house.run_now
            for depth in (0, 1):
                saying = saying_of_depth(dice, now, depth, 3)
                telling, object_of = Telling(now, saying), Saying(now, saying)
                self.same([house.holds(saying), house.knowers(saying)], [object_of(run), telling(run)])
                for party in parties_of_book(now):
                    known = party in house.knowers(saying)
                    self.same([house.together((party,), saying), object_of.known((party,))(run), telling.soonest(party, run) == (),
                               twin_of(now, (party,), saying, run) is None, holds_at(now, ('knows', (party,), saying), run)],
                              [known] * 5)
                    number = telling[party]
                    self.same(lets_coming(now, party, saying, coming_paper(now, party, saying)), number)
                    own = [name for name in run if party in dict(now[0])[name]]
                    if number is not None and len(own) >= number:
                        self.same(known, True)
                    self.same(house.past((party,)), past_of(now, run, (party,)))

    def test_what_an_accepted_paper_states_is_true(self):
        dice = random.Random(385)
        for book in books_of_houses(386, 2):
            for depth in (0, 1):
                saying = some_positive(dice, book, depth, 3)
                many = lets_tables(book, saying, told_tables(book, saying))
                self.same([many == 0, failing_run(book, saying) is None], [holds_always(book, saying)] * 2)
                pool = tuple(sorted(dice.sample(possible_listeners(book), min(2, len(possible_listeners(book))))))
                least = lets_listeners(book, saying, pool, listener_paper(book, saying, pool))
                self.same([least, () in least], [least_listeners(book, saying, pool), many == 0])
                for party in parties_of_book(book):
                    known = ('knows', (party,), saying)
                    self.same(knows_from(book, party, saying) == 0, holds_always(book, known))
                    self.same(soonest_row(book, (party,), saying, ()) == (), party in who_know(book, saying, ()))

    def test_guards_that_always_hold_change_no_run(self):
        dice = random.Random(387)
        for book in books_of_houses(388, 2):
            for name, own in book[0]:
                saying = saying_of_depth(dice, book, 1, 3)
                guarded = guarded_book(book, (name, ('or', saying, ('not', saying))))
                self.same([guarded, are_alike_to(book, guarded, tuple(parties_of_book(book)))], [least_machine(book), True])
        self.same([keeps_itself(FREE), keeps_itself(guarded_book(FREE, ('n', DONE))), keeps_itself(THREE)], [True, True, True])

    def test_logs_and_lines(self):
        dice = random.Random(389)
        for book in books_of_houses(390, 2):
            house = replayed((('house', book), *happened(dice.random(), book).events))
            again = replayed(read_log(log_lines(house.log())))
            self.same([again == house, state_of(again), again.table()], [True, state_of(house), house.table()])

    def test_all_errors_are_those_of_the_interface(self):
        families = (errors.PaperError, errors.BookError, errors.HouseError, errors.TextError)
        found = {}
        for module in modules():
            for name, thing in vars(module).items():
                if inspect.isclass(thing) and issubclass(thing, BaseException):
                    found[name] = thing
        self.same(sorted(found), ['BookError', 'Broken', 'HouseError', 'InvalidEvent', 'InvalidPaper', 'InvalidRow', 'InvalidText',
                                  'NotClosed', 'NotUsable', 'NothingToUndo', 'PaperError', 'TextError', 'ToldError'])
        for name, thing in found.items():
            if thing not in (*families, errors.ToldError):
                self.same([len(thing.__bases__), thing.__bases__[0] in families], [1, True])

    def test_each_name_is_defined_in_one_file(self):
        where = {}
        for module in modules():
            for name, thing in vars(module).items():
                if (inspect.isfunction(thing) or inspect.isclass(thing)) and thing.__module__ == module.__name__:
                    where.setdefault(name, []).append(module.__name__)
        self.same([name for name, files in where.items() if len(files) > 1], [])

    def test_two_of_each_do_not_meet(self):
        desks, houses = [Desk(EITHER), Desk(EITHER)], [House(EITHER), House(EITHER)]
        desks[0].say('do a')
        houses[0].do_deed('b')
        self.same([desk.say('run') for desk in desks] + [house.run_now for house in houses], ['a', '-', ('b',), ()])
