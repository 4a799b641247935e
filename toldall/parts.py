"""What is read off deeds and states that are known to be those of a machine."""


def share_party(parties, others):
    """Whether some of the parties are among the others."""
    for party in parties:
        if party in others:
            return True
    return False


def all_parties(deeds):
    """The set of the parties of deeds."""
    return tuple(sorted({party for deed in deeds for party in deed[1]}))


def names_of(deeds):
    """The names of deeds, in their order."""
    return tuple([deed[0] for deed in deeds])


def step_behind(states, at, name):
    """The state to which a deed leads from a state, None if it is not allowed there."""
    for allowed, end in states[at]:
        if allowed == name:
            return end
    return None


def end_of_row(states, row, start=0):
    """The state to which a row leads from a state, None if it is not allowed from there."""
    at = start
    for name in row:
        at = step_behind(states, at, name)
        if at is None:
            return None
    return at


def nonempty_sets(things):
    """All nonempty sets of ascending things, ascending by size, then as tuples."""
    found = []
    latest = [()]
    for _ in things:
        latest = [(*each, thing) for each in latest for thing in things if not each or each[-1] < thing]
        found.extend(latest)
    return tuple(found)
