"""From which own deed on a party always knows a saying."""

from toldall.stands import always_ahead, row_to, steps_of, told_levels, truths_of
from toldall.usable import need_book, need_party, need_saying


def knows_from(book, party, saying):
    """The least number of own deeds from which on the party always knows the saying, None if there is none."""
    paper = coming_paper(book, party, saying)
    if paper[0] == "always":
        return 0
    return paper[1] + 1 if paper[0] == "most" else None


def coming_paper(book, party, saying):
    """A paper that shows what knows_from returns."""
    need_book(book)
    need_party(book, party)
    need_saying(book, saying)
    known = ("knows", (party,), saying)
    levels = told_levels(book, known)
    truths = truths_of(book, known, levels)
    if all(truths):
        return "always", levels
    steps = steps_of(book[0])
    own = [party in deed[1] for deed in book[0]]
    sure = always_ahead(levels[-1], steps, truths)
    at, ring = ring_through(levels[-1], steps, own, sure)
    if ring is None:
        return most_paper(levels, steps, own, truths, sure)
    run = row_to(levels[-1], steps, 0, [k == at for k in range(len(sure))])
    rest = row_to(levels[-1], steps, at, [not truth for truth in truths])
    return "ring", run, ring, rest, levels


def ring_through(level, steps, own, sure):
    """A stand that is not sure, and a row with an own deed that leads from it to itself; -1 and None without any."""
    for at, stand in enumerate(level):
        ends = [(name, stand[-1][i]) for i, name in steps if own[i] and stand[-1][i] != -1]
        if ends and not sure[at]:
            # Not sure for this question: from there deeds lead back to this stand.
            here = [k == at for k in range(len(level))]
            apart = always_ahead(level, steps, [not each for each in here])
            for name, end in ends:
                if not apart[end]:
                    return at, (name, *row_to(level, steps, end, here))
    return -1, None


def most_paper(levels, steps, own, truths, sure):
    """The paper of the greatest number of own deeds in runs behind which the party does not know, if there is one."""
    many, rows = farthest_rows(levels[-1], steps, own, sure)
    unknowing = [k for k, truth in enumerate(truths) if not truth]
    number = max([many[k] for k in unknowing])
    runs = [rows[k] for k in unknowing if many[k] == number]
    bounds = ["sure" if each else many[k] for k, each in enumerate(sure)]
    return "most", number, runs[0], levels, tuple(bounds)


def farthest_rows(level, steps, own, sure):
    """For each stand that is not sure the greatest number of own deeds in rows to it, and such a row.

    No ring with an own deed goes through these stands.
    """
    many = {0: 0}
    rows = {0: ()}
    waiting = [0]
    k = 0
    while k < len(waiting):
        at = waiting[k]
        for i, name in steps:
            end = level[at][-1][i]
            length = many[at] + (1 if own[i] else 0)
            if end != -1 and not sure[end] and many.get(end, -1) < length:
                many[end] = length
                rows[end] = (*rows[at], name)
                waiting.append(end)
        k = k + 1
    return many, rows
