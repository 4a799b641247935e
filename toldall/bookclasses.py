"""Books as objects."""

from toldall.bookchanges import beside_books, both_books, can_listen, with_listener, without_deed
from toldall.bookchecker import lets_book
from toldall.bookreadings import machine_read
from toldall.booktexts import machine_text
from toldall.errors import NotUsable
from toldall.kinds import is_deed, is_pair
from toldall.machinechecker import lets_machine
from toldall.merging import book_of
from toldall.parts import all_parties, end_of_row, names_of
from toldall.usable import is_deed_name, is_run_of, need_book, need_deed, need_run


class Book:
    """A book that never changes."""

    def __init__(self, deeds, states):
        lets_book((deeds, states))
        self._form = (deeds, states)
        self._names = names_of(deeds)

    @property
    def deeds(self):
        """The deeds of the form."""
        return self._form[0]

    @property
    def states(self):
        """The states of the form."""
        return self._form[1]

    @property
    def parties(self):
        """The set of the parties."""
        return all_parties(self._form[0])

    @property
    def form(self):
        """The pair of the deeds and the states."""
        return self._form

    def __getitem__(self, at):
        """The parties of the deed of this name."""
        need_deed(self._form, at)
        parties = dict(self._form[0])
        return parties[at]

    def __contains__(self, x):
        """Whether any value is a run."""
        return is_run_of(self._form, x)

    def __len__(self):
        """How many states there are."""
        return len(self._form[1])

    def __iter__(self):
        return iter(self._names)

    def __eq__(self, other):
        return isinstance(other, Book) and self._form == other._form

    def __str__(self):
        return str(machine_text(self._form))

    def __call__(self, row):
        """The state to which a run leads."""
        need_run(self._form, row, "row")
        return end_of_row(self._form[1], row)

    def __add__(self, other):
        """The Book of both, which share no names."""
        need_other(other)
        form = beside_books(self._form, other.form)
        return Book(form[0], form[1])

    def __and__(self, other):
        """The Book of what both, with equal deeds, allow."""
        need_other(other)
        form = both_books(self._form, other.form)
        return Book(form[0], form[1])

    def __sub__(self, other):
        """The Book without the deed of this name."""
        form = without_deed(self._form, other)
        return Book(form[0], form[1])

    @classmethod
    def parsed(cls, text):
        """The Book that a string writes."""
        form = machine_read(text)
        return Book(form[0], form[1])

    @staticmethod
    def free(*deeds):
        """The Book of these deeds with one state, in which all are allowed."""
        refuse_deeds(deeds)
        ordered = tuple(sorted(deeds))
        return Book(ordered, (tuple([(name, 0) for name in names_of(ordered)]),))


class Listened(Book):
    """The Book of a book with listeners."""

    def __init__(self, book, *pairs):
        form = listened_form(book, pairs)
        super().__init__(form[0], form[1])
        self._whole = book

    @property
    def whole(self):
        """The book without the listeners."""
        return self._whole


class Merged(Book):
    """The Book of a machine with the same runs."""

    def __init__(self, deeds, states):
        lets_machine((deeds, states))
        form = book_of((deeds, states))
        super().__init__(form[0], form[1])
        self._whole = (deeds, states)

    @property
    def whole(self):
        """The machine, as it was handed in."""
        return self._whole


def need_other(other):
    """Refuse any value that is no Book."""
    if not isinstance(other, Book):
        raise NotUsable("other", -1)


def refuse_deeds(deeds):
    """Refuse deeds of which one is none, or has a name that came before, and no deeds at all."""
    if len(deeds) == 0:
        raise NotUsable("deeds", -1)
    names = {}
    for k, deed in enumerate(deeds):
        if not is_deed(deed) or deed[0] in names:
            raise NotUsable("deeds", k)
        names[deed[0]] = True


def listened_form(book, pairs):
    """The book with a listener for each of the pairs of a deed and a party."""
    need_book(book)
    form = book
    for k, pair in enumerate(pairs):
        if not is_pair(pair) or not is_deed_name(form, pair[0]) or not can_listen(form, pair[0], pair[1]):
            raise NotUsable("pairs", k)
        form = with_listener(form, pair[0], pair[1])
    return form
