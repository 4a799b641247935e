"""From which own deed on each party knows a saying, as objects."""

from toldall.coming import knows_from
from toldall.errors import NotUsable
from toldall.holding import who_know
from toldall.parts import all_parties
from toldall.soonest import soonest_row
from toldall.usable import need_book, need_party, need_saying


class Telling:
    """For each party of a book from which own deed on it knows a saying. It never changes."""

    def __init__(self, book, saying):
        need_book(book)
        need_saying(book, saying)
        self._book = book
        self._saying = saying
        self._parties = all_parties(book[0])
        self._numbers = tuple([(party, knows_from(book, party, saying)) for party in self._parties])

    @property
    def book(self):
        """The book."""
        return self._book

    @property
    def saying(self):
        """The saying, as a tuple."""
        return self._saying

    @property
    def numbers(self):
        """The pairs of each party and its number, None without any."""
        return self._numbers

    def __getitem__(self, at):
        """The number of the party."""
        need_party(self._book, at)
        numbers = dict(self._numbers)
        return numbers[at]

    def __contains__(self, x):
        """Whether any value is a party with a number."""
        return any([number is not None and party == x for party, number in self._numbers])

    def __len__(self):
        """How many parties have a number."""
        return len([party for party, number in self._numbers if number is not None])

    def __iter__(self):
        return iter(self._parties)

    def __str__(self):
        return " ".join([f"{party}:-" if number is None else f"{party}:{number}" for party, number in self._numbers])

    def __eq__(self, other):
        return isinstance(other, Telling) and self._numbers == other._numbers

    def __call__(self, run):
        """The set of the parties that know the saying at the run."""
        return who_know(self._book, self._saying, run)

    def soonest(self, party, run):
        """The shortest row behind a run until the party knows the saying, None if there is none."""
        need_party(self._book, party)
        return soonest_row(self._book, (party,), self._saying, run)

    def sooner_than(self, other):
        """Whether each number is at most that of the other Telling, which has the same parties."""
        if not isinstance(other, Telling) or self._parties != other._parties:
            raise NotUsable("other", -1)
        return all([is_at_most(one[1], two[1]) for one, two in zip(self._numbers, other._numbers)])


def is_at_most(number, other):
    """Whether a number is at most another one; None is greater than all numbers."""
    return other is None or (number is not None and number <= other)
