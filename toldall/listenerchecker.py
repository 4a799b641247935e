"""The checker of listener papers."""

from toldall.bookchanges import book_with
from toldall.errors import InvalidPaper
from toldall.kinds import is_pair
from toldall.pools import is_set_within, lies_in, need_pool, sets_of_pool
from toldall.tablechecker import lets_tables


def lets_listeners(book, saying, pool, thing):
    """The set of the least sets that a listener paper shows; InvalidPaper for any other value."""
    need_pool(book, saying, pool)
    if not is_listener_paper(thing):
        raise InvalidPaper("shape", -1)
    for i, papers in enumerate(thing):
        for k, paper in enumerate(papers):
            refuse_set(pool, i, papers[:k], paper[0])
            if not shows(book_with(book, paper[0]), saying, paper[1], i == 0):
                raise InvalidPaper("tables", (i, k))
    least = [listeners for listeners, tables in thing[0]]
    others = [listeners for listeners, tables in thing[1]]
    for each in sets_of_pool(pool):
        if not any([lies_in(one, each) for one in least]) and not any([lies_in(each, one) for one in others]):
            raise InvalidPaper("left", each)
    return tuple(least)


def is_listener_paper(thing):
    """Whether any value is a pair of tuples of pairs."""
    if not is_pair(thing) or not all([isinstance(papers, tuple) for papers in thing]):
        return False
    return all([is_pair(paper) for papers in thing for paper in papers])


def refuse_set(pool, i, before, thing):
    """Refuse any value that cannot be the set of listeners behind the papers before it, in tuple i."""
    k = len(before)
    if not is_set_within(pool, thing) or (k > 0 and thing <= before[-1][0]):
        raise InvalidPaper("set", (i, k))
    for j, (listeners, tables) in enumerate(before):
        if lies_in(listeners, thing) or lies_in(thing, listeners):
            raise InvalidPaper("twin", (i, j, k))


def shows(book, saying, tables, wanted):
    """Whether any value is told tables that show whether the saying always holds, as it is wanted."""
    try:
        many = lets_tables(book, saying, tables)
    except InvalidPaper:
        return False
    return (many == 0) == wanted
