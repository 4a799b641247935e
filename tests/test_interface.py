"""The interface: names, parameters, and the files in which functions and classes are defined."""

import importlib
import inspect
import unittest

FUNCTIONS = {
    'kinds': ['is_integer(thing)', 'is_number(thing)', 'is_name(thing)', 'is_name_set(thing)', 'is_deed(thing)',
              'is_row(thing)', 'is_machine(thing)', 'is_book(thing)', 'is_saying(thing)'],
    'machinechecker': ['lets_machine(thing)'],
    'bookchecker': ['lets_book(thing)'],
    'bookparts': ['parties_of(machine)', 'deed_names(machine)', 'parties_in(machine, deed)',
                  'are_apart(machine, deed, other)', 'deeds_at(machine, state)', 'state_behind(machine, state, deed)',
                  'deeds_of(machine, parties)', 'deeds_without(machine, parties)'],
    'merging': ['reached_machine(machine)', 'least_machine(machine)', 'parting_row(machine, other)',
                'exchange_fault(machine)', 'book_of(machine)'],
    'bookchanges': ['with_listener(book, deed, party)', 'without_deed(book, deed)', 'renamed_deed(book, deed, name)',
                    'renamed_party(book, party, name)', 'beside_books(book, other)', 'both_books(book, other)'],
    'booktexts': ['deed_text(deed)', 'machine_text(machine)'],
    'bookreadings': ['machine_read(text)'],
    'runs': ['is_run(book, thing)', 'lets_run(book, thing)', 'state_after(book, run)', 'runs_of(book, length)',
             'kinds_of_runs(book, length)'],
    'exchanges': ['own_row(book, row, party)', 'are_alike(book, row, other)', 'least_row(book, row)',
                  'alike_rows(book, row)', 'how_many_alike(book, row)', 'rounds_of(book, row)',
                  'longest_chain(book, row)'],
    'pasts': ['past_indexes(book, row, parties)', 'past_of(book, row, parties)', 'rest_of(book, row, parties)',
              'looks_alike(book, parties, row, other)'],
}

CLASSES = {
    'Book': ('(deeds, states)', ('deeds', 'states', 'parties', 'form'),
             ('__getitem__', '__contains__', '__len__', '__iter__', '__eq__', '__str__', '__call__', '__add__',
              '__and__', '__sub__', 'parsed', 'free')),
    'Listened': ('(book, *pairs)', ('whole',), ()),
    'Merged': ('(deeds, states)', ('whole',), ()),
}

GENERATORS = ('runs_of', 'kinds_of_runs', 'alike_rows')


class InterfaceTest(unittest.TestCase):

    def test_functions(self):
        for module, listed in FUNCTIONS.items():
            for wanted in listed:
                name = wanted.split('(')[0]
                function = getattr(importlib.import_module('toldall.' + module), name)
                self.assertEqual(name + str(inspect.signature(function)), wanted)
                self.assertEqual(function.__module__, 'toldall.' + module)
                self.assertEqual(inspect.isgeneratorfunction(function), name in GENERATORS)

    def test_classes(self):
        module = importlib.import_module('toldall.bookclasses')
        for name, (signature, properties, methods) in CLASSES.items():
            made = getattr(module, name)
            self.assertEqual(str(inspect.signature(made)), signature)
            self.assertEqual(made.__module__, 'toldall.bookclasses')
            for each in properties:
                self.assertIsInstance(vars(made)[each], property)
                self.assertIsNone(vars(made)[each].fset)
            for each in methods:
                self.assertIn(each, vars(made))
        self.assertIsInstance(vars(module.Book)['parsed'], classmethod)
        self.assertIsInstance(vars(module.Book)['free'], staticmethod)
        self.assertEqual(str(inspect.signature(module.Book.free)), '(*deeds)')
        self.assertEqual(str(inspect.signature(module.Book.parsed)), '(text)')
        self.assertEqual((module.Listened.__bases__, module.Merged.__bases__), ((module.Book,), (module.Book,)))
