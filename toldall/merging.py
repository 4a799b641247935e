"""Machines with the same runs, and rows that tell machines apart."""

from toldall.errors import NotClosed, NotUsable
from toldall.kinds import exchange_place, is_machine
from toldall.parts import end_of_row
from toldall.usable import need_machine


def reached_machine(machine):
    """The machine of the states to which runs lead, numbered anew."""
    need_machine(machine)
    return machine[0], reached_states(machine[1])


def least_machine(machine):
    """The machine with the same runs that has the fewest states."""
    need_machine(machine)
    return machine[0], least_states(machine[1])


def parting_row(machine, other):
    """The shortest row that is a run of one of two machines alone, None without any."""
    need_machine(machine)
    if not is_machine(other) or other[0] != machine[0]:
        raise NotUsable("other", -1)
    return parting_row_from(machine[1], other[1], (0, 0))


def exchange_fault(machine):
    """Two alike rows of which the first one alone is a run, None without any."""
    need_machine(machine)
    return exchange_rows(machine[0], least_states(machine[1]))


def book_of(machine):
    """The least machine, if it is a book; otherwise NotClosed is raised."""
    need_machine(machine)
    states = least_states(machine[1])
    rows = exchange_rows(machine[0], states)
    if rows is not None:
        raise NotClosed(rows[0], rows[1])
    return machine[0], states


def reached_states(states):
    """The states to which rows lead, numbered in the order in which they are met."""
    order = [0]
    place = {0: 0}
    rows = []
    while len(rows) < len(order):
        state = states[order[len(rows)]]
        for name, end in state:
            if end not in place:
                place[end] = len(order)
                order.append(end)
        rows.append(tuple([(name, place[end]) for name, end in state]))
    return tuple(rows)


def least_states(states):
    """The fewest states that have the same runs, numbered as those that are reached."""
    reached = reached_states(states)
    blocks = alike_blocks(reached)
    merged = {blocks[k]: tuple([(name, blocks[end]) for name, end in state]) for k, state in enumerate(reached)}
    # Blocks are numbered as their first states are met, so the keys are in order.
    return reached_states(list(merged.values()))


def alike_blocks(states):
    """For each state the number of its block: from all states of one the same rows are allowed."""
    blocks = [0] * len(states)
    many = 1
    while True:
        blocks = numbered([tuple([(name, blocks[end]) for name, end in state]) for state in states])
        if max(blocks) + 1 == many:
            return blocks
        many = max(blocks) + 1


def numbered(keys):
    """For each key the number that it got when it came first."""
    numbers = {}
    for key in keys:
        if key not in numbers:
            numbers[key] = len(numbers)
    return [numbers[key] for key in keys]


def parting_row_from(states, others, start):
    """The shortest row that is allowed from just one of a pair of states, None without any."""
    order = [start]
    rows = {start: ()}
    k = 0
    while k < len(order):
        at = order[k]
        ahead = rows[at]
        for name, pair in paired_steps(states, others, at):
            row = (*ahead, name)
            if None in pair:
                return row
            if pair not in rows:
                rows[pair] = row
                order.append(pair)
        k = k + 1
    return None


def paired_steps(states, others, pair):
    """For each deed that is allowed in one of a pair of states, where it leads from both."""
    here, there = dict(states[pair[0]]), dict(others[pair[1]])
    names = sorted(set(here) | set(there))
    return [(name, (here.get(name), there.get(name))) for name in names]


def shortest_row_to(states, wanted):
    """The shortest row that leads from state 0 to one that is reached."""
    order = [0]
    rows = {0: ()}
    k = 0
    while wanted not in rows:
        at = order[k]
        ahead = rows[at]
        for name, end in states[at]:
            if end not in rows:
                rows[end] = (*ahead, name)
                order.append(end)
        k = k + 1
    return rows[wanted]


def exchange_rows(deeds, states):
    """As exchange_fault, for the states of a least machine."""
    place = exchange_place(deeds, states)
    if place is None:
        return None
    name, other = deeds[place[1]][0], deeds[place[2]][0]
    ahead = shortest_row_to(states, place[0])
    row, turned = (*ahead, name, other), (*ahead, other, name)
    end = end_of_row(states, row)
    turned_end = end_of_row(states, turned)
    if turned_end is None:
        return row, turned
    # Both are runs, but lead to states from which not the same rows are allowed.
    behind = parting_row_from(states, states, (end, turned_end))
    if end_of_row(states, behind, end) is None:
        return (*turned, *behind), (*row, *behind)
    return (*row, *behind), (*turned, *behind)
