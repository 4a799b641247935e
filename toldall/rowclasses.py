"""Rows as objects."""

from toldall.errors import InvalidText, NotUsable
from toldall.exchanges import least_alike, rounds_of
from toldall.kinds import is_number
from toldall.orders import common_row, is_beginning, joined_row
from toldall.parts import names_of
from toldall.pasts import past_of, rest_of
from toldall.usable import is_deed_name, need_book, need_row, need_text


class Row:
    """All rows that are alike to one. It never changes."""

    def __init__(self, book, row=()):
        need_book(book)
        need_row(book, row)
        self._book = book
        self._least = least_alike(dict(book[0]), row)

    @property
    def deeds_now(self):
        """The least of the rows."""
        return self._least

    def __len__(self):
        return len(self._least)

    def __iter__(self):
        return iter(self._least)

    def __getitem__(self, at):
        """The name of the deed at this index, from 0 on."""
        if not is_number(at) or at >= len(self._least):
            raise NotUsable("k", -1)
        return self._least[at]

    def __contains__(self, x):
        """Whether any value is the name of one of the deeds."""
        return x in self._least

    def __str__(self):
        if len(self._least) == 0:
            return "-"
        return " ".join(self._least)

    def __eq__(self, other):
        return isinstance(other, Row) and self._book == other._book and self._least == other._least

    def __add__(self, other):
        """The Row with another one, or a deed, behind it."""
        return Row(self._book, (*self._least, *self._added(other)))

    def __radd__(self, other):
        """The Row with a deed ahead of it."""
        return Row(self._book, (*self._added(other), *self._least))

    def __mod__(self, other):
        """The Row of the past of these parties."""
        return Row(self._book, past_of(self._book, self._least, other))

    def __floordiv__(self, other):
        """The Row of the rest without the past of these parties."""
        return Row(self._book, rest_of(self._book, self._least, other))

    def __and__(self, other):
        """The Row of what both begin with."""
        self._need_row(other)
        return Row(self._book, common_row(self._book, self._least, other.deeds_now))

    def __or__(self, other):
        """The Row to which both are joined."""
        self._need_row(other)
        joined = joined_row(self._book, self._least, other.deeds_now)
        if joined is None:
            raise NotUsable("other", -1)
        return Row(self._book, joined)

    def __abs__(self):
        """How many rounds there are."""
        return len(rounds_of(self._book, self._least))

    def begins_in(self, other):
        """Whether this one is a beginning of the other."""
        self._need_row(other)
        return is_beginning(self._book, self._least, other.deeds_now)

    @classmethod
    def read(cls, book, text):
        """The Row of the row that a string writes."""
        need_book(book)
        need_text(text)
        return cls(book, row_written(names_of(book[0]), text))

    def _is_beside(self, thing):
        """Whether any value is a Row of an equal book."""
        return isinstance(thing, Row) and self._book == thing._book

    def _need_row(self, thing):
        """Refuse any value that is no Row of an equal book."""
        if not self._is_beside(thing):
            raise NotUsable("other", -1)

    def _added(self, thing):
        """The deeds that a Row of an equal book, or a name of a deed, adds."""
        if self._is_beside(thing):
            return thing.deeds_now
        if not is_deed_name(self._book, thing):
            raise NotUsable("other", -1)
        return (thing,)


def row_written(names, text):
    """The row of deeds with these names that a string writes."""
    if text == "-":
        return ()
    words = text.split(" ")
    for k, word in enumerate(words):
        if word not in names:
            raise InvalidText(0, k)
    return tuple(words)
