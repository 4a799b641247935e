"""What is read off the forms of sayings."""

from toldall.kinds import inner_sayings, is_fact
from toldall.parts import all_parties, share_party


def parts_within(thing):
    """All parts of a saying, each ahead of those within it, the first one ahead of the second.

    Each is a tuple of the part, its place, and the words of the parts above it. Of any other value the parts are given
    as far as they have the form of one.
    """
    found = []
    waiting = [(thing, (), ())]
    while waiting:
        part, place, above = waiting.pop()
        found.append((part, place, above))
        inner = inner_sayings(part)
        if inner:
            words = (*above, part[0])
            waiting.extend([(inner[k], (*place, k), words) for k in reversed(range(len(inner)))])
    return found


def facts_within(saying):
    """The set of the facts of a saying."""
    return tuple(sorted({part for part, place, above in parts_within(saying) if is_fact(part)}))


def depth_within(saying):
    """The greatest number of "knows" that stand one in another."""
    # Each "knows" has a part within it, so it is enough to look above the parts.
    return max([above.count("knows") for part, place, above in parts_within(saying)])


def saying_fault(book, thing):
    """The first fault of a saying of the book, as word and place; None for a saying of it."""
    parts = parts_within(thing)
    for part, place, above in parts:
        if inner_sayings(part) is None:
            return "shape", place
    for part, place, above in parts:
        word = fault_of_part(book, part)
        if word is not None:
            return word, place
    return None


def fault_of_part(book, part):
    """The word of the first fault of a part by itself, which has the form of a saying; None without any."""
    if is_fact(part):
        return fault_of_names(dict(book[0]), named_deeds(part))
    if part[0] == "knows":
        known = all_parties(book[0])
        return None if all([party in known for party in part[1]]) else "party"
    if part[0] == "at" and part[1][-1] >= len(book[1]):
        return "state"
    return None


def named_deeds(fact):
    """The names of the deeds of a fact."""
    return fact[1:3] if fact[0] == "latest" else fact[1:2]


def fault_of_names(parties, names):
    """The word of the first fault of the deeds that a fact names, by the parties of each deed; None without any."""
    if not all([name in parties for name in names]):
        return "deed"
    if len(names) == 2 and not share_party(parties[names[0]], parties[names[1]]):
        return "apart"
    return None
