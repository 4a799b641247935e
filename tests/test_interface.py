"""The interface: names, parameters, and the files in which functions and classes are defined."""

import importlib
import inspect
import unittest

FUNCTIONS = {
    'kinds': ['is_integer(thing)', 'is_number(thing)', 'is_name(thing)', 'is_name_set(thing)', 'is_deed(thing)',
              'is_row(thing)', 'is_machine(thing)', 'is_book(thing)', 'is_saying(thing)'],
    'machinechecker': ['lets_machine(thing)'],
    'bookchecker': ['lets_book(thing)'],
    'bookparts': ['parties_of(machine)', 'deed_names(machine)', 'parties_in(machine, deed)',
                  'are_apart(machine, deed, other)', 'deeds_at(machine, state)', 'state_behind(machine, state, deed)',
                  'deeds_of(machine, parties)', 'deeds_without(machine, parties)'],
    'merging': ['reached_machine(machine)', 'least_machine(machine)', 'parting_row(machine, other)',
                'exchange_fault(machine)', 'book_of(machine)'],
    'bookchanges': ['with_listener(book, deed, party)', 'without_deed(book, deed)', 'renamed_deed(book, deed, name)',
                    'renamed_party(book, party, name)', 'beside_books(book, other)', 'both_books(book, other)'],
    'booktexts': ['deed_text(deed)', 'machine_text(machine)'],
    'bookreadings': ['machine_read(text)'],
    'runs': ['is_run(book, thing)', 'lets_run(book, thing)', 'state_after(book, run)', 'runs_of(book, length)',
             'kinds_of_runs(book, length)'],
    'exchanges': ['own_row(book, row, party)', 'are_alike(book, row, other)', 'least_row(book, row)',
                  'alike_rows(book, row)', 'how_many_alike(book, row)', 'rounds_of(book, row)',
                  'longest_chain(book, row)'],
    'pasts': ['past_indexes(book, row, parties)', 'past_of(book, row, parties)', 'rest_of(book, row, parties)',
              'looks_alike(book, parties, row, other)'],
    'orders': ['is_beginning(book, row, other)', 'common_row(book, row, other)', 'joined_row(book, row, other)'],
    'sayingchecker': ['lets_saying(book, thing)'],
    'sayingparts': ['parts_of_saying(saying)', 'facts_of(saying)', 'depth_of(saying)', 'is_positive(saying)',
                    'party_sets(book)', 'marks_after(book, saying, run)'],
    'sayingtexts': ['saying_text(saying)'],
    'sayingreadings': ['saying_read(text)'],
    'holding': ['holds_at(book, saying, run)', 'who_know(book, saying, run)', 'twin_of(book, parties, saying, run)'],
    'tables': ['told_tables(book, saying)'],
    'tablechecker': ['lets_tables(book, saying, thing)'],
    'deciding': ['holds_always(book, saying)', 'failing_run(book, saying)', 'holding_run(book, saying)'],
    'coming': ['knows_from(book, party, saying)', 'coming_paper(book, party, saying)'],
    'comingchecker': ['lets_coming(book, party, saying, thing)'],
    'soonest': ['soonest_row(book, parties, saying, run)'],
    'guards': ['guarded_book(book, *pairs)'],
    'keeping': ['keeps_itself(book)', 'slip_of(book)'],
    'listening': ['possible_listeners(book)', 'least_listeners(book, saying, pool)', 'greatest_others(book, saying, pool)',
                  'listener_paper(book, saying, pool)'],
    'listenerchecker': ['lets_listeners(book, saying, pool, thing)'],
    'houseevents': ['is_event(thing)'],
    'houselogs': ['is_log(thing)', 'replayed(log)'],
    'housetexts': ['event_line(event)', 'log_lines(log)'],
    'housereadings': ['read_event(text)', 'read_log(lines)'],
    'likeness': ['are_alike_to(book, other, parties)', 'parting_past(book, other, parties)'],
}

# For each class its module, its parameters, its properties, and the methods that are signs or are used by them.
CLASSES = {
    'Book': ('bookclasses', '(deeds, states)', ('deeds', 'states', 'parties', 'form'),
             ('__getitem__', '__contains__', '__len__', '__iter__', '__eq__', '__str__', '__call__', '__add__',
              '__and__', '__sub__')),
    'Listened': ('bookclasses', '(book, *pairs)', ('whole',), ()),
    'Merged': ('bookclasses', '(deeds, states)', ('whole',), ()),
    'Row': ('rowclasses', '(book, row=())', ('deeds_now',),
            ('__len__', '__iter__', '__getitem__', '__contains__', '__str__', '__eq__', '__add__', '__radd__', '__mod__',
             '__floordiv__', '__and__', '__or__', '__abs__')),
    'Walker': ('walkers', '(book)', ('run_now', 'state_now', 'can_now', 'next_deed'), ('__iadd__',)),
    'Saying': ('sayingclasses', '(book, form)', ('form', 'facts', 'depth'),
               ('__invert__', '__and__', '__or__', '__xor__', '__rshift__', '__call__', '__len__', '__contains__',
                '__eq__', '__str__')),
    'Telling': ('tellingclasses', '(book, saying)', ('book', 'saying', 'numbers'),
                ('__getitem__', '__contains__', '__len__', '__iter__', '__str__', '__call__', '__eq__')),
    'House': ('houses', '(book)', ('run_now', 'book_now', 'listeners_now', 'watched_now', 'guards_now', 'mark_now'),
              ('__setitem__', '__getitem__', '__iadd__', '__contains__', '__len__', '__eq__')),
    'Desk': ('desks', '(book)', (), ()),
}

# The other methods; static and class methods as they are called.
METHODS = {
    'Book': ('parsed(text)', 'free(*deeds)'),
    'Row': ('begins_in(self, other)', 'read(book, text)'),
    'Walker': ('do(self, deed)', 'set_next(self, deed)', 'back(self)', 'swap(self, k)', 'trial(self)',
               'tried(self, *deeds)'),
    'Saying': ('known(self, parties)', 'read(book, text)', 'happened(book, deed, n=1)'),
    'Telling': ('soonest(self, party, run)', 'sooner_than(self, other)'),
    'House': ('happen(self, event)', 'do_deed(self, deed)', 'listen(self, deed, party)', 'watch(self, saying)',
              'drop(self, saying)', 'mark(self, name)', 'barred(self, event)', 'tried(self, *events)', 'trial(self)',
              'undo(self)', 'do_all(self, *events, keep=False)', 'counts(self)', 'can_do(self)', 'knowers(self, saying)',
              'holds(self, saying)', 'together(self, parties, saying)', 'twin(self, parties, saying)',
              'past(self, parties)', 'news(self, *, lost=False)', 'done_since(self, name)', 'tally(self)',
              'table(self)', 'log(self)'),
    'Desk': ('say(self, row)', 'counts(self)'),
}

BOUND = {'parsed': classmethod, 'free': staticmethod, 'read': classmethod, 'happened': classmethod}
SETTERS = ('next_deed', 'mark_now')

GENERATORS = ('runs_of', 'kinds_of_runs', 'alike_rows')


class InterfaceTest(unittest.TestCase):

    def test_functions(self):
        for module, listed in FUNCTIONS.items():
            for wanted in listed:
                name = wanted.split('(')[0]
                function = getattr(importlib.import_module('toldall.' + module), name)
                self.assertEqual(name + str(inspect.signature(function)), wanted)
                self.assertEqual(function.__module__, 'toldall.' + module)
                self.assertEqual(inspect.isgeneratorfunction(function), name in GENERATORS)

    def test_classes(self):
        for name, (module, signature, properties, methods) in CLASSES.items():
            made = getattr(importlib.import_module('toldall.' + module), name)
            self.assertEqual(str(inspect.signature(made)), signature)
            self.assertEqual(made.__module__, 'toldall.' + module)
            for each in properties:
                self.assertIsInstance(vars(made)[each], property)
                self.assertEqual(vars(made)[each].fset is not None, each in SETTERS)
            for each in methods:
                self.assertTrue(inspect.isfunction(vars(made)[each]))

    def test_methods(self):
        for name, listed in METHODS.items():
            made = getattr(importlib.import_module('toldall.' + CLASSES[name][0]), name)
            for wanted in listed:
                method = wanted.split('(')[0]
                self.assertEqual(method + str(inspect.signature(getattr(made, method))), wanted)
                if method in BOUND:
                    self.assertIsInstance(vars(made)[method], BOUND[method])
                else:
                    self.assertTrue(inspect.isfunction(vars(made)[method]))

    def test_class_values(self):
        self.assertEqual(vars(importlib.import_module('toldall.houses').House)['MOST'], 40)

    def test_derived_classes(self):
        module = importlib.import_module('toldall.bookclasses')
        self.assertEqual((module.Listened.__bases__, module.Merged.__bases__), ((module.Book,), (module.Book,)))
