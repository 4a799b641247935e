"""How deeds and machines are written."""

from toldall.errors import NotUsable
from toldall.kinds import is_deed
from toldall.usable import need_machine


def deed_text(deed):
    """The line of a deed."""
    if not is_deed(deed):
        raise NotUsable("deed", -1)
    return deed_line(deed)


def machine_text(machine):
    """The lines of the deeds and of the states of a machine."""
    need_machine(machine)
    lines = [deed_line(deed) for deed in machine[0]]
    return "\n".join([*lines, *[state_line(state) for state in machine[1]]])


def deed_line(deed):
    """The line of what is known to be a deed."""
    parties = ",".join(deed[1])
    return f"deed {deed[0]} {parties}"


def state_line(state):
    """The line of what is known to be a state."""
    if len(state) == 0:
        return "state -"
    steps = " ".join([f"{name}:{end}" for name, end in state])
    return f"state {steps}"
