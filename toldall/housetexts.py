"""How events and logs are written."""

from toldall.booktexts import machine_text
from toldall.errors import NotUsable
from toldall.houseevents import is_event, kinds_behind
from toldall.houselogs import need_log
from toldall.sayingtexts import saying_text


def event_line(event):
    """The line of an event by form."""
    if not is_event(event):
        raise NotUsable("event", -1)
    kinds = kinds_behind(event[0])
    words = [saying_text(each) if kind == "saying" else each for kind, each in zip(kinds, event[1:])]
    return " ".join([event[0], *words])


def log_lines(log):
    """The lines of a log: how many the book has, these, and those of the events."""
    need_log(log)
    text = machine_text(log[0][1])
    lines = text.split("\n")
    return [f"house {len(lines)}", *lines, *[event_line(event) for event in log[1:]]]
