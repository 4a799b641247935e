"""Runs that are led by hand."""

from toldall.errors import NothingToUndo, NotUsable
from toldall.kinds import is_number
from toldall.parts import end_of_row, share_party, step_behind
from toldall.usable import need_book


class Walker:
    """A run to which deeds are added by hand, at first the empty one."""

    def __init__(self, book):
        need_book(book)
        self._book = book
        self._run = ()
        self._kept = None

    @property
    def run_now(self):
        """The run."""
        return self._run

    @property
    def state_now(self):
        """The state to which the run leads."""
        return end_of_row(self._book[1], self._run)

    @property
    def can_now(self):
        """The set of the deeds that are allowed behind the run."""
        return tuple([name for name, end in self._book[1][self.state_now]])

    @property
    def next_deed(self):
        """The first deed that is allowed behind the run, None if there is none; to assign a deed is to do it."""
        can = self.can_now
        return can[0] if can else None

    @next_deed.setter
    def next_deed(self, value):
        self.do(value)

    def do(self, deed):
        """Do a deed, and return the state to which the run leads then."""
        end = step_behind(self._book[1], self.state_now, deed)
        if end is None:
            raise NotUsable("deed", -1)
        self._run = (*self._run, deed)
        return end

    def set_next(self, deed):
        """Do a deed, and return the state to which the run leads then."""
        return self.do(deed)

    def __iadd__(self, other):
        """Do a deed."""
        self.do(other)
        return self

    def back(self):
        """Take the last deed back, and return it."""
        if len(self._run) == 0:
            raise NothingToUndo(0)
        deed = self._run[-1]
        self._run = self._run[:-1]
        return deed

    def swap(self, k):
        """Exchange the deeds k and k + 1, and return the run."""
        run = self._run
        if not is_number(k) or k + 1 >= len(run):
            raise NotUsable("k", -1)
        parties = dict(self._book[0])
        if share_party(parties[run[k]], parties[run[k + 1]]):
            raise NotUsable("k", -1)
        self._run = (*run[:k], run[k + 1], run[k], *run[k + 2:])
        return self._run

    def trial(self):
        """The walker, which takes back, at the end of a block, all that was done in it."""
        return self

    def __enter__(self):
        self._kept = Moment(self._run, self._kept)
        return self

    def __exit__(self, kind, value, trace):
        kept = self._kept
        self._run = kept.run
        self._kept = kept.before

    def tried(self, *deeds):
        """The state to which the run would lead with these deeds more."""
        at = self.state_now
        for k, deed in enumerate(deeds):
            at = step_behind(self._book[1], at, deed)
            if at is None:
                raise NotUsable("deeds", k)
        return at


class Moment:
    """A run as it was at the beginning of a block, and the moment of the block around it, if there is one."""

    def __init__(self, run, before):
        self.run = run
        self.before = before
