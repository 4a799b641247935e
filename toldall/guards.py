"""Books in which deeds are done only by parties that know a saying."""

from toldall.bookchanges import paired_states
from toldall.errors import NotUsable
from toldall.kinds import is_pair
from toldall.merging import least_states
from toldall.sayingforms import saying_fault
from toldall.stands import steps_of, told_levels, truths_of
from toldall.usable import is_deed_name, need_book


def guarded_book(book, *pairs):
    """The least machine of the runs in which each deed is done by parties that know each saying of its pairs."""
    need_book(book)
    for k, pair in enumerate(pairs):
        if not is_guard(book, pair):
            raise NotUsable("pairs", k)
    # What is known is known by the whole book, so each pair bars rows by itself.
    states = least_states(book[1])
    for deed, saying in pairs:
        guarded = least_states(guarded_states(book, deed, saying))
        states = least_states(paired_states(states, guarded, True))
    return book[0], states


def is_guard(book, thing):
    """Whether any value is a pair of the name of a deed and a saying of the book."""
    return is_pair(thing) and is_deed_name(book, thing[0]) and saying_fault(book, thing[1]) is None


def guarded_states(book, deed, saying):
    """States from which the runs are allowed in which the deed is done by parties that know the saying."""
    parties = dict(book[0])
    known = ("knows", parties[deed], saying)
    levels = told_levels(book, known)
    truths = truths_of(book, known, levels)
    rows = []
    for stand, truth in zip(levels[-1], truths):
        steps = [(name, stand[-1][i]) for i, name in steps_of(book[0]) if truth or name != deed]
        rows.append(tuple([(name, end) for name, end in steps if end != -1]))
    return tuple(rows)
