"""Logs of houses."""

from toldall.errors import NotUsable
from toldall.houseevents import is_event
from toldall.houses import House
from toldall.kinds import is_book, is_pair


def is_log(thing):
    """Whether any value is a log: a book, and then events by form, possible or not."""
    if not isinstance(thing, tuple) or len(thing) == 0 or not is_pair(thing[0]):
        return False
    word, book = thing[0]
    return word == "house" and is_book(book) and all([is_event(event) for event in thing[1:]])


def need_log(log):
    """Refuse any value that is no log."""
    if not is_log(log):
        raise NotUsable("log", -1)


def replayed(log):
    """A new House behind the events of a log; InvalidEvent for the first one that is not possible."""
    need_log(log)
    house = House(log[0][1])
    house.replay(log[1:])
    return house
