"""How events and logs are read."""

from toldall.bookreadings import machine_read, number_read
from toldall.errors import InvalidText, NotUsable
from toldall.houseevents import kinds_behind
from toldall.kinds import is_book
from toldall.usable import need_text
from toldall.wordreadings import values_written, wrong_value


def read_event(text):
    """The event by form that any string writes; InvalidText if it writes none."""
    need_text(text)
    return event_of_line(text, 0)


def read_log(lines):
    """The log that a list of strings writes; InvalidText if it writes none."""
    if not are_lines(lines):
        raise NotUsable("lines", -1)
    given = lines if lines else [""]
    many = lines_of_book(given[0])
    if len(given) <= many:
        raise InvalidText(len(given), 0)
    book = book_of_lines(given[1:many + 1])
    events = [event_of_line(line, k) for k, line in enumerate(given) if k > many]
    return (("house", book), *events)


def are_lines(thing):
    """Whether any value is a list of strings without newlines."""
    return isinstance(thing, list) and all([isinstance(line, str) and "\n" not in line for line in thing])


def event_of_line(line, at):
    """The event by form that line at writes; InvalidText if it writes none."""
    words = line.split(" ")
    kinds = kinds_behind(words[0])
    if kinds is None:
        raise InvalidText(at, 0)
    field = wrong_value(kinds, words[1:])
    if field is not None:
        raise InvalidText(at, field + 1)
    return (words[0], *values_written(kinds, words[1:]))


def event_written(text):
    """The event by form that a string writes, None if it writes none."""
    try:
        return event_of_line(text, 0)
    except InvalidText:
        return None


def lines_of_book(line):
    """How many lines the book has, by the first line of a log; InvalidText if this is not possible."""
    words = line.split(" ")
    if words[0] != "house":
        raise InvalidText(0, 0)
    if len(words) == 1 or number_read(words[1]) is None:
        raise InvalidText(0, 1)
    if len(words) > 2:
        raise InvalidText(0, 2)
    return number_read(words[1])


def book_of_lines(lines):
    """The book that the lines of a log behind the first one write; InvalidText if they write none."""
    try:
        machine = machine_read("\n".join(lines))
    except InvalidText as e:
        raise InvalidText(e.line + 1, e.field) from e
    if not is_book(machine):
        raise InvalidText(1, 0)
    return machine


def book_written(text):
    """The book of the log without events that a string writes, with newlines between its lines, or None."""
    try:
        log = read_log(text.split("\n"))
    except InvalidText:
        return None
    return log[0][1] if len(log) == 1 else None
