"""Live houses: what parties know while deeds are done."""

from toldall.errors import Broken, InvalidEvent, NothingToUndo, NotUsable
from toldall.happenings import (book_behind, deeds_done, events_with, guard_of, guards_by, listeners_by, marks_by,
                                reason_against, reason_of_event, watched_by)
from toldall.holding import holds_at, twin_of, who_know
from toldall.kinds import is_saying
from toldall.parts import all_parties, names_of
from toldall.pasts import past_of, past_row
from toldall.usable import need_book, need_deed


class House:
    """A book behind which events happen, at first none."""

    MOST = 40

    def __init__(self, book):
        need_book(book)
        self._book = book
        self._events = ()
        self._started = 0
        self._finished = 0

    @property
    def run_now(self):
        """The deeds that were done, a run."""
        return deeds_done(self._events)

    @property
    def book_now(self):
        """The book with the listeners."""
        return book_behind(self._book, self._events)

    @property
    def listeners_now(self):
        """The set of the pairs of a deed and a party that came as a listener."""
        return listeners_by(self._events)

    @property
    def watched_now(self):
        """The set of the sayings that are watched."""
        return watched_by(self._events)

    @property
    def guards_now(self):
        """The set of the pairs of a deed and its guard."""
        return guards_by(self._book, self._events)

    @property
    def mark_now(self):
        """The latest name of a moment, None without any; to assign a name is to give it to this moment."""
        marks = marks_by(self._events)
        return marks[-1] if marks else None

    @mark_now.setter
    def mark_now(self, value):
        self.mark(value)

    def happen(self, event):
        """Apply an event, and return how many deeds are done then."""
        self._started = self._started + 1
        try:
            self._put(event)
        finally:
            self._finished = self._started
        return len(self.run_now)

    def do_deed(self, deed):
        """Do a deed, and return how many are done then."""
        return self.happen(("do", deed))

    def listen(self, deed, party):
        """Let the party be one of the deed; return how many deeds are done."""
        return self.happen(("listen", deed, party))

    def watch(self, saying):
        """Watch a saying; return how many deeds are done."""
        return self.happen(("watch", saying))

    def drop(self, saying):
        """Watch a saying no longer; return how many deeds are done."""
        return self.happen(("drop", saying))

    def mark(self, name):
        """Give this moment a name; return how many deeds are done."""
        return self.happen(("mark", name))

    def __setitem__(self, at, worth):
        """Give the deed a guard, or none."""
        self.happen(("free", at) if worth is None else ("guard", at, worth))

    def __iadd__(self, other):
        """Apply an event."""
        self.happen(other)
        return self

    def barred(self, event):
        """The reason why any value is not possible as an event, or None."""
        return reason_against(self._book, self._events, event, self.MOST)

    def tried(self, *events):
        """The run and the book as they would be behind these events."""
        behind = self._events
        for event in events:
            behind = events_with(self._book, behind, event, self.MOST)
        return deeds_done(behind), book_behind(self._book, behind)

    def trial(self):
        """What takes back, at the end of a block, all that was changed since this call."""
        return Trial(self, self._events)

    def undo(self):
        """Take back the last event, and return it."""
        self._started = self._started + 1
        try:
            return self._taken_back()
        finally:
            self._finished = self._started

    def do_all(self, *events, keep=False):
        """Apply events in order, and return how many they are; without keep all of them or none."""
        self._started = self._started + 1
        try:
            if not isinstance(keep, bool):
                raise NotUsable("keep", -1)
            self._put_all(events, keep)
        finally:
            self._finished = self._started
        return len(events)

    def replay(self, events):
        """Apply events in order; this counts as no operation."""
        for event in events:
            self._put(event)

    def counts(self):
        """How many operations were started, and how many finished."""
        return self._started, self._finished

    def can_do(self):
        """The set of the deeds that are possible, however many events there are."""
        names = names_of(self._book[0])
        return tuple([name for name in names if reason_of_event(self._book, self._events, ("do", name)) is None])

    def knowers(self, saying):
        """The set of the parties that know the saying, each one alone."""
        return who_know(self.book_now, saying, self.run_now)

    def holds(self, saying):
        """Whether the saying holds."""
        return holds_at(self.book_now, saying, self.run_now)

    def together(self, parties, saying):
        """Whether these parties together know the saying."""
        return self.twin(parties, saying) is None

    def twin(self, parties, saying):
        """A run that looks alike to the parties, and at which the saying does not hold, or None."""
        return twin_of(self.book_now, parties, saying, self.run_now)

    def past(self, parties):
        """The past of the parties."""
        return past_of(self.book_now, self.run_now, parties)

    def news(self, *, lost=False):
        """For the watched sayings the parties that know them since the last deed, or do not any more."""
        if not isinstance(lost, bool):
            raise NotUsable("lost", -1)
        # Ahead of all deeds the run without its last one is the same, so nothing is new.
        book, run = self.book_now, self.run_now
        pairs = [(saying, told_by_last(book, saying, run, lost)) for saying in self.watched_now]
        return tuple([(saying, parties) for saying, parties in pairs if parties])

    def done_since(self, name):
        """The row of the deeds that were done behind the moment of this name."""
        if name not in marks_by(self._events):
            raise NotUsable("name", -1)
        return deeds_done(self._events[self._events.index(("mark", name)) + 1:])

    def tally(self):
        """The pairs of each deed that was done, and how often."""
        run = self.run_now
        return tuple([(name, run.count(name)) for name in names_of(self._book[0]) if name in run])

    def table(self):
        """A line for each party."""
        book, run = self.book_now, self.run_now
        knowing = [who_know(book, saying, run) for saying in self.watched_now]
        return [table_line(book, run, knowing, party) for party in all_parties(book[0])]

    def log(self):
        """The book of the beginning, and the events that were not undone."""
        return (("house", self._book), *self._events)

    def __getitem__(self, at):
        """The guard of the deed, or None."""
        need_deed(self._book, at)
        return guard_of(self._events, at)

    def __iter__(self):
        raise TypeError("nothing goes through a house")

    def __contains__(self, x):
        """Whether any value is a watched saying."""
        # True would equal 1 in what is no saying.
        return is_saying(x) and x in self.watched_now

    def __len__(self):
        """How many deeds were done."""
        return len(deeds_done(self._events))

    def __eq__(self, other):
        return isinstance(other, House) and self._book == other._book and self._events == other._events

    def _put(self, event):
        """Apply an event."""
        self._events = events_with(self._book, self._events, event, self.MOST)

    def _put_all(self, events, keep):
        """Apply events; Broken if one is not possible, and then none of them, or those ahead of it."""
        before = self._events
        for k, event in enumerate(events):
            try:
                self._put(event)
            except InvalidEvent as e:
                if not keep:
                    self._events = before
                raise Broken(k) from e

    def _taken_back(self):
        """Take back the last event, and return it."""
        if len(self._events) == 0:
            raise NothingToUndo(0)
        event = self._events[-1]
        self._events = self._events[:-1]
        return event


class Trial:
    """A house, and its events as they are to be again at the end of a block."""

    def __init__(self, house, events):
        self._house = house
        self._events = events

    def __enter__(self):
        return self._house

    def __exit__(self, kind, value, trace):
        house = self._house
        house._events = self._events


def told_by_last(book, saying, run, lost):
    """The set of the parties that know the saying since the last deed of the run, or do not any more."""
    here = who_know(book, saying, run)
    before = who_know(book, saying, run[:-1])
    if lost:
        return tuple([party for party in before if party not in here])
    return tuple([party for party in here if party not in before])


def table_line(book, run, knowing, party):
    """The line of a party, by the sets of the parties that know the watched sayings."""
    parties = dict(book[0])
    own = len([name for name in run if party in parties[name]])
    past = len(past_row(book[0], run, (party,)))
    known = len([each for each in knowing if party in each])
    return f"{party:<8} {own:>2} {past:>2} {known:>2}"
