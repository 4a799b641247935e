"""Sayings as objects."""

from toldall.errors import NotUsable
from toldall.holding import holds_at
from toldall.kinds import is_number, is_saying
from toldall.sayingparts import depth_of, facts_of, parts_of_saying
from toldall.sayingreadings import saying_read
from toldall.sayingtexts import saying_text
from toldall.usable import need_book, need_deed, need_parties, need_saying


class Saying:
    """A saying of a book. It never changes."""

    def __init__(self, book, form):
        need_book(book)
        need_saying(book, form, "form")
        self._book = book
        self._form = form

    @property
    def form(self):
        """The saying as a tuple."""
        return self._form

    @property
    def facts(self):
        """The set of the facts."""
        return facts_of(self._form)

    @property
    def depth(self):
        """The greatest number of "knows" that stand one in another."""
        return depth_of(self._form)

    def __invert__(self):
        return Saying(self._book, ("not", self._form))

    def __and__(self, other):
        self._need_saying(other)
        return Saying(self._book, ("and", self._form, other.form))

    def __or__(self, other):
        self._need_saying(other)
        return Saying(self._book, ("or", self._form, other.form))

    def __xor__(self, other):
        """The Saying that one of both holds, but not the other one."""
        self._need_saying(other)
        one, two = self._form, other.form
        return Saying(self._book, ("or", ("and", one, ("not", two)), ("and", ("not", one), two)))

    def __rshift__(self, other):
        """The Saying that the other one holds if this one does."""
        self._need_saying(other)
        return Saying(self._book, ("or", ("not", self._form), other.form))

    def __call__(self, run):
        """Whether it holds at the run."""
        return holds_at(self._book, self._form, run)

    def known(self, parties):
        """The Saying that these parties together know it."""
        need_parties(self._book, parties)
        return Saying(self._book, ("knows", parties, self._form))

    def __len__(self):
        return len(parts_of_saying(self._form))

    def __contains__(self, x):
        """Whether any value is one of the parts."""
        # True would equal 1 in what is no saying.
        return is_saying(x) and x in parts_of_saying(self._form)

    def __eq__(self, other):
        return isinstance(other, Saying) and self._book == other._book and self._form == other._form

    def __str__(self):
        return str(saying_text(self._form))

    @classmethod
    def read(cls, book, text):
        """The Saying that a string writes."""
        need_book(book)
        form = saying_read(text)
        need_saying(book, form, "text")
        return cls(book, form)

    @classmethod
    def happened(cls, book, deed, n=1):
        """The Saying that the deed was done at least so often."""
        need_book(book)
        need_deed(book, deed)
        if not is_number(n) or n == 0:
            raise NotUsable("n", -1)
        return cls(book, ("done", deed, n))

    def _need_saying(self, thing):
        """Refuse any value that is no Saying of an equal book."""
        if not isinstance(thing, Saying) or self._book != thing._book:
            raise NotUsable("other", -1)
