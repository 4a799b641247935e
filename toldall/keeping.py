"""Whether the parties of a deed that is allowed know that it is."""

from toldall.merging import reached_states, shortest_row_to
from toldall.parts import share_party
from toldall.usable import need_book


def keeps_itself(book):
    """Whether each deed, where it is allowed, is allowed behind all runs that look alike to its parties."""
    need_book(book)
    return slip_in(dict(book[0]), reached_states(book[1])) is None


def slip_of(book):
    """A run and two deeds that are apart, both allowed behind it, but the first one not behind the second, or None."""
    need_book(book)
    states = reached_states(book[1])
    slip = slip_in(dict(book[0]), states)
    if slip is None:
        return None
    at, name, other = slip
    return shortest_row_to(states, at), name, other


def slip_in(parties, states):
    """A state, and two deeds apart that it allows, the first one not behind the second; None without any."""
    for at, state in enumerate(states):
        for name, _ in state:
            for other, end in state:
                if not share_party(parties[name], parties[other]) and name not in dict(states[end]):
                    return at, name, other
    return None
