"""What events behind a book have come to, and why an event is not possible behind them."""

from toldall.bookchanges import book_with
from toldall.errors import InvalidEvent
from toldall.holding import twin_of
from toldall.houseevents import is_event
from toldall.parts import names_of
from toldall.sayingforms import saying_fault
from toldall.usable import is_deed_name, is_party, is_run_of


def events_with(book, events, event, most):
    """The events and any value behind them; InvalidEvent if it is not possible there."""
    reason = reason_against(book, events, event, most)
    if reason is not None:
        raise InvalidEvent(event, reason)
    return (*events, event)


def reason_against(book, events, event, most):
    """The first reason why any value is not possible as an event where so many may happen, or None."""
    if not is_event(event):
        return "shape"
    if len(events) >= most:
        return "full"
    return reason_of_event(book, events, event)


def reason_of_event(book, events, event):
    """As reason_against, for an event by form, and however many there are."""
    now = book_behind(book, events)
    word = event[0]
    if word in ("do", "listen", "guard", "free") and not is_deed_name(now, event[1]):
        return "deed"
    if word == "listen" and not is_party(now, event[2]):
        return "party"
    if word in ("watch", "guard") and saying_fault(now, event[-1]) is not None:
        return "saying"
    if word in ("listen", "watch", "drop", "guard", "free") and changes_nothing(now, events, event):
        return "same"
    if word == "mark" and event[1] in marks_by(events):
        return "twice"
    return reason_of_deed(now, events, event[1]) if word == "do" else None


def changes_nothing(now, events, event):
    """Whether it is so already as it would be behind an event."""
    word = event[0]
    if word == "listen":
        parties = dict(now[0])
        return event[2] in parties[event[1]]
    if word in ("watch", "drop"):
        return (event[1] in watched_by(events)) == (word == "watch")
    return guard_of(events, event[1]) == (event[2] if word == "guard" else None)


def reason_of_deed(now, events, deed):
    """Why a deed of the book cannot be done behind the events, None if it can."""
    run = deeds_done(events)
    if not is_run_of(now, (*run, deed)):
        return "barred"
    guard = guard_of(events, deed)
    parties = dict(now[0])
    if guard is not None and twin_of(now, parties[deed], guard, run) is not None:
        return "unknowing"
    return None


def deeds_done(events):
    """The row of the deeds that were done."""
    return tuple([event[1] for event in events if event[0] == "do"])


def listeners_by(events):
    """The set of the pairs of a deed and a party that came as a listener."""
    return tuple(sorted([event[1:] for event in events if event[0] == "listen"]))


def book_behind(book, events):
    """The book with the listeners."""
    return book_with(book, listeners_by(events))


def watched_by(events):
    """The set of the sayings that are watched."""
    watched = []
    for event in events:
        if event[0] == "watch":
            watched = [*watched, event[1]]
        elif event[0] == "drop":
            watched = [each for each in watched if each != event[1]]
    return tuple(sorted(watched))


def guard_of(events, deed):
    """The saying that is the guard of a deed, or None."""
    for event in events[::-1]:
        if event[0] in ("guard", "free") and event[1] == deed:
            return event[2] if event[0] == "guard" else None
    return None


def guards_by(book, events):
    """The set of the pairs of a deed and its guard."""
    guards = [(name, guard_of(events, name)) for name in names_of(book[0])]
    return tuple([(name, guard) for name, guard in guards if guard is not None])


def marks_by(events):
    """The names of the moments, in the order in which they came."""
    return tuple([event[1] for event in events if event[0] == "mark"])
