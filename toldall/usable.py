"""What raises NotUsable for the values of parameters that cannot be used."""

from toldall.errors import NotUsable
from toldall.kinds import is_book, is_machine, is_name, is_name_set, is_number, is_row, is_saying
from toldall.parts import all_parties, end_of_row, names_of
from toldall.sayingforms import saying_fault


def need_machine(machine):
    """Refuse any value that is no machine."""
    if not is_machine(machine):
        raise NotUsable("machine", -1)


def need_book(book):
    """Refuse any value that is no book."""
    if not is_book(book):
        raise NotUsable("book", -1)


def is_deed_name(machine, thing):
    """Whether any value is the name of a deed of the machine."""
    return is_name(thing) and any([deed[0] == thing for deed in machine[0]])


def need_deed(machine, deed, word="deed"):
    """Refuse any value that is no name of a deed of the machine."""
    if not is_deed_name(machine, deed):
        raise NotUsable(word, -1)


def is_party(machine, thing):
    """Whether any value is a party of the machine."""
    return is_name(thing) and any([thing in deed[1] for deed in machine[0]])


def need_party(machine, party):
    """Refuse any value that is no party of the machine."""
    if not is_party(machine, party):
        raise NotUsable("party", -1)


def need_parties(machine, parties):
    """Refuse any value that is no nonempty set of parties of the machine."""
    if not is_name_set(parties):
        raise NotUsable("parties", -1)
    known = all_parties(machine[0])
    if not all([party in known for party in parties]):
        raise NotUsable("parties", -1)


def need_state(machine, state):
    """Refuse any value that is no index of a state of the machine."""
    if not is_number(state) or state >= len(machine[1]):
        raise NotUsable("state", -1)


def need_row(book, row, word="row"):
    """Refuse any value that is no row of the book, allowed or not."""
    if not is_row(row):
        raise NotUsable(word, -1)
    names = names_of(book[0])
    if not all([name in names for name in row]):
        raise NotUsable(word, -1)


def is_run_of(book, thing):
    """Whether any value is a run of what is known to be a book."""
    return is_row(thing) and end_of_row(book[1], thing) is not None


def need_run(book, run, word="run"):
    """Refuse any value that is no run of the book."""
    if not is_run_of(book, run):
        raise NotUsable(word, -1)


def need_length(length):
    """Refuse any value that is no number."""
    if not is_number(length):
        raise NotUsable("length", -1)


def need_text(text):
    """Refuse any value that is no string."""
    if not isinstance(text, str):
        raise NotUsable("text", -1)


def need_saying(book, saying, word="saying"):
    """Refuse any value that is no saying of the book."""
    if saying_fault(book, saying) is not None:
        raise NotUsable(word, -1)


def need_saying_form(saying):
    """Refuse any value that has not the form of a saying."""
    if not is_saying(saying):
        raise NotUsable("saying", -1)
