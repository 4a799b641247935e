"""The checker of machines."""

from toldall.errors import InvalidPaper
from toldall.kinds import machine_fault


def lets_machine(thing):
    """How many states a machine has; InvalidPaper for any other value."""
    fault = machine_fault(thing)
    if fault is not None:
        raise InvalidPaper(fault[0], fault[1])
    return len(thing[1])
