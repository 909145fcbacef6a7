"""Machines of texts: lists of dicts from signs to next states, with some member states.

State 0 is the first one. Machines may be of any size here; a Language keeps only a least one.
"""

from sealedslots.errors import TooLarge
from sealedslots.search import reached


def least_machine(signs, states, member_states, limit):
    """Return the states and the member states of the least machine, numbered by the least texts to them.

    Raise TooLarge if it has more states than the limit.
    """
    order = reached(0, lambda state: [(sign, states[state][sign]) for sign in signs])
    chosen = {state: True for state in member_states}
    blocks = {state: state in chosen for state in order}
    before = 0
    blocks, many = _split(signs, states, order, blocks)
    while many > before:
        # Blocks are never joined again, so a large machine need not be split to the end.
        if many > limit:
            raise TooLarge("language states", limit)
        before = many
        blocks, many = _split(signs, states, order, blocks)
    firsts = _firsts(order, blocks)
    least = [{sign: blocks[states[state][sign]] for sign in signs} for state in firsts]
    return (least, [block for block, state in enumerate(firsts) if state in chosen])


def _split(signs, states, order, blocks):
    """Split blocks whose states lead to different blocks; return the new blocks and how many there are.

    The new blocks are numbered in the order in which they are first met.
    """
    numbers = {}
    split = {}
    for state in order:
        key = tuple([blocks[state]] + [blocks[states[state][sign]] for sign in signs])
        split[state] = numbers.setdefault(key, len(numbers))
    return (split, len(numbers))


def _firsts(order, blocks):
    """Return the list of the first state of each block."""
    firsts = []
    for state in order:
        if blocks[state] == len(firsts):
            firsts.append(state)
    return firsts


def machine_from(first, leads, is_in):
    """Return the states and the member states of the machine that the graph from the first node is.

    The member states are the nodes for which is_in(node) holds.
    """
    order = reached(first, leads)
    numbers = {node: number for number, node in enumerate(order)}
    states = [{sign: numbers[after] for sign, after in leads(node)} for node in order]
    return (states, [numbers[node] for node in order if is_in(node)])


def machine_of(signs, texts):
    """Return the states and the member states of a machine of exactly these texts."""
    states = [{}]
    ends = []
    for text in texts:
        state = 0
        for sign in text:
            state = _next_in_tree(states, state, sign)
        ends.append(state)
    lost = len(states)
    states.append({})
    return ([{sign: state.get(sign, lost) for sign in signs} for state in states], ends)


def _next_in_tree(states, state, sign):
    """Return the next state, which is added to the states if it is not there yet."""
    if sign not in states[state]:
        states[state][sign] = len(states)
        states.append({})
    return states[state][sign]
