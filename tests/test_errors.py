"""The list of errors and families, and the errors of [10]."""

from toldall import errors
from tests.cases import Case, nested

FAMILIES = {
    'PaperError': {'InvalidPaper': ('word', 'at')},
    'BookError': {'NotUsable': ('word', 'at'), 'NotClosed': ('row', 'other')},
    'HouseError': {'InvalidEvent': ('event', 'reason'), 'NothingToUndo': ('steps',), 'Broken': ('many',)},
    'TextError': {'InvalidText': ('line', 'field'), 'InvalidRow': ('row',)},
}

VALUES = (None, True, 0, -1, 'word', '', [1], ('a', (2, [3])), nested('a'), object(), errors.Broken(1))


class ErrorsTest(Case):

    def listed(self):
        for family, kinds in FAMILIES.items():
            for name, fields in kinds.items():
                yield getattr(errors, family), getattr(errors, name), fields

    def test_families_come_from_the_base_class(self):
        self.assertEqual(errors.ToldError.__bases__, (ValueError,))
        for family in FAMILIES:
            self.assertEqual(getattr(errors, family).__bases__, (errors.ToldError,))

    def test_each_error_comes_directly_from_its_family(self):
        self.assertEqual(len(list(self.listed())), 8)
        for family, kind, _ in self.listed():
            self.assertEqual(kind.__bases__, (family,))

    def test_all_are_defined_in_the_module(self):
        names = ['ToldError', *FAMILIES, *[name for kinds in FAMILIES.values() for name in kinds]]
        for name in names:
            self.assertEqual(getattr(errors, name).__module__, 'toldall.errors')

    def test_fields_are_kept_as_they_are(self):
        for _, kind, fields in self.listed():
            for k in range(len(VALUES)):
                given = [VALUES[(k + n) % len(VALUES)] for n in range(len(fields))]
                for error in (kind(*given), kind(**dict(zip(fields, given)))):
                    self.assertEqual(sorted(vars(error)), sorted(fields))
                    for name, value in zip(fields, given):
                        self.assertIs(getattr(error, name), value)

    def test_constructed_with_exactly_its_fields(self):
        for _, kind, fields in self.listed():
            for many in (0, len(fields) - 1, len(fields) + 1):
                with self.assertRaises(TypeError):
                    kind(*range(many))

    def test_raised_and_caught_by_family(self):
        for family, kind, fields in self.listed():
            with self.assertRaises(family) as caught:
                raise kind(*fields)
            self.assertIs(caught.exception.__class__, kind)
