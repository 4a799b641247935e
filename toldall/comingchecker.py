"""The checker of coming papers."""

from toldall.errors import InvalidPaper
from toldall.kinds import is_number
from toldall.runs import lets_run
from toldall.stands import stand_behind, truths_of
from toldall.tablechecker import lets_tables
from toldall.usable import need_book, need_party, need_saying


def lets_coming(book, party, saying, thing):
    """The number that a coming paper shows, None for none; InvalidPaper for any other value."""
    need_book(book)
    need_party(book, party)
    need_saying(book, saying)
    if not is_coming(thing):
        raise InvalidPaper("shape", -1)
    known = ("knows", (party,), saying)
    tables = tables_in(thing)
    lets_tables(book, known, tables)
    for row in runs_in(thing):
        lets_run(book, row)
    truths = truths_of(book, known, tables)
    if thing[0] == "always":
        refuse_unknowing(truths)
        return 0
    if thing[0] == "most":
        refuse_most(book[0], party, thing, truths)
        return thing[1] + 1
    refuse_ring(book[0], party, thing, truths)
    return None


def is_coming(thing):
    """Whether any value has one of the forms of a coming paper, whatever its tables and its rows are."""
    if not isinstance(thing, tuple) or len(thing) == 0:
        return False
    if thing[0] == "always":
        return len(thing) == 2
    if thing[0] == "most" and len(thing) == 5:
        return is_number(thing[1]) and isinstance(thing[2], tuple) and are_bounds(thing[4])
    if thing[0] == "ring" and len(thing) == 5:
        return all([isinstance(row, tuple) for row in thing[1:4]])
    return False


def are_bounds(thing):
    """Whether any value is a tuple of numbers and "sure"."""
    return isinstance(thing, tuple) and all([is_number(bound) or bound == "sure" for bound in thing])


def tables_in(paper):
    """The tables of what has the form of a coming paper."""
    return paper[3] if paper[0] == "most" else paper[-1]


def runs_in(paper):
    """The rows of what has the form of a coming paper that are to be runs."""
    if paper[0] == "always":
        return []
    if paper[0] == "most":
        return [paper[2]]
    _, run, ring, rest, _ = paper
    return [run, (*run, *ring), (*run, *rest)]


def refuse_unknowing(truths):
    """Refuse the first stand that does not know."""
    for k, truth in enumerate(truths):
        if not truth:
            raise InvalidPaper("known", k)


def refuse_most(deeds, party, paper, truths):
    """Refuse bounds that do not fit the stands, then a run that does not show the number."""
    _, number, run, tables, bounds = paper
    level = tables[-1]
    own = own_steps(deeds, party)
    if len(bounds) != len(level) or bounds[0] == "sure":
        raise InvalidPaper("bound", -1)
    for k, stand in enumerate(level):
        if not fits_truth(bounds[k], number, truths[k]) or not fits_nexts(bounds, own, bounds[k], stand[-1]):
            raise InvalidPaper("bound", k)
    if truths[stand_behind(level, deeds, run)] or own_deeds_in(deeds, party, run) != number:
        raise InvalidPaper("run", -1)


def own_steps(deeds, party):
    """For each deed 1 if it is one of the party, otherwise 0."""
    return [1 if party in own else 0 for name, own in deeds]


def own_deeds_in(deeds, party, row):
    """How many deeds of the row are deeds of the party."""
    parties = dict(deeds)
    return len([name for name in row if party in parties[name]])


def fits_truth(bound, number, truth):
    """Whether a bound fits a stand that knows, or one that does not."""
    return truth or (bound != "sure" and bound <= number)


def fits_nexts(bounds, own, bound, nexts):
    """Whether a bound fits those of the next stands, each deed being one of the party's own or not."""
    for step, end in zip(own, nexts):
        if end != -1 and bounds[end] != "sure" and (bound == "sure" or bounds[end] < bound + step):
            return False
    return True


def refuse_ring(deeds, party, paper, truths):
    """Refuse a ring that is none for the party, then a rest behind which the party knows."""
    _, run, ring, rest, tables = paper
    level = tables[-1]
    if stand_behind(level, deeds, run) != stand_behind(level, deeds, (*run, *ring)):
        raise InvalidPaper("ring", -1)
    if own_deeds_in(deeds, party, ring) == 0:
        raise InvalidPaper("ring", -1)
    if truths[stand_behind(level, deeds, (*run, *rest))]:
        raise InvalidPaper("run", -1)
