"""Who else has to listen to which deed, so that a saying always holds."""

from toldall.bookchanges import book_with
from toldall.deciding import holds_always
from toldall.pools import all_listeners, lies_in, need_pool, sets_of_pool
from toldall.stands import told_levels
from toldall.usable import need_book


def possible_listeners(book):
    """The set of all listeners of the book."""
    need_book(book)
    return all_listeners(book[0])


def least_listeners(book, saying, pool):
    """The set of the least sets of listeners of the pool with which the saying always holds."""
    need_pool(book, saying, pool)
    return parted_sets(book, saying, pool)[0]


def greatest_others(book, saying, pool):
    """The set of the greatest sets of listeners of the pool with which the saying does not always hold."""
    need_pool(book, saying, pool)
    return parted_sets(book, saying, pool)[1]


def listener_paper(book, saying, pool):
    """A paper that shows the least sets and the greatest others."""
    need_pool(book, saying, pool)
    least, others = parted_sets(book, saying, pool)
    return papers_of(book, saying, least), papers_of(book, saying, others)


def papers_of(book, saying, sets):
    """The pairs of each of the sets of listeners and told tables for the book with them."""
    return tuple([(listeners, told_levels(book_with(book, listeners), saying)) for listeners in sets])


def parted_sets(book, saying, pool):
    """The least sets with which the saying always holds, and the greatest with which it does not."""
    sets = sets_of_pool(pool)
    least = []
    # By size: each set in which one lies comes behind it, and with it the saying always holds, too.
    for each in sets:
        if not any([lies_in(one, each) for one in least]) and holds_always(book_with(book, each), saying):
            least.append(each)
    others = []
    for each in reversed(list(sets)):
        if not any([lies_in(one, each) for one in least]) and not any([lies_in(each, one) for one in others]):
            others.append(each)
    return tuple(sorted(least)), tuple(sorted(others))
