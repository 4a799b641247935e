"""The parts of machines."""

from toldall.parts import all_parties, names_of, share_party, step_behind
from toldall.usable import need_deed, need_machine, need_parties, need_state


def parties_of(machine):
    """The set of the parties."""
    need_machine(machine)
    return all_parties(machine[0])


def deed_names(machine):
    """The names of the deeds, in order."""
    need_machine(machine)
    return names_of(machine[0])


def parties_in(machine, deed):
    """The parties of a deed."""
    need_machine(machine)
    need_deed(machine, deed)
    parties = dict(machine[0])
    return parties[deed]


def are_apart(machine, deed, other):
    """Whether two deeds have no common party."""
    need_machine(machine)
    need_deed(machine, deed)
    need_deed(machine, other, "other")
    parties = dict(machine[0])
    return not share_party(parties[deed], parties[other])


def deeds_at(machine, state):
    """The set of the names of the deeds that are allowed in a state."""
    need_machine(machine)
    need_state(machine, state)
    return tuple([name for name, end in machine[1][state]])


def state_behind(machine, state, deed):
    """The state to which a deed leads from a state, None if it is not allowed there."""
    need_machine(machine)
    need_state(machine, state)
    need_deed(machine, deed)
    return step_behind(machine[1], state, deed)


def deeds_of(machine, parties):
    """The set of the names of the deeds with some of these parties."""
    need_machine(machine)
    need_parties(machine, parties)
    return tuple([name for name, own in machine[0] if share_party(own, parties)])


def deeds_without(machine, parties):
    """The set of the names of the deeds with none of these parties."""
    need_machine(machine)
    need_parties(machine, parties)
    return tuple([name for name, own in machine[0] if not share_party(own, parties)])
