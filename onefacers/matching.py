"""Leading the nodes of one net to those of another one, such that ties lead to ties.

A net is a tuple (nodes, outers): nodes a dict from each node to a tuple (word, mates), the
mates being the ends to which the node's own ends are tied, in order; outers a dict from each
OUTER name to the end to which that end is tied. An end is a tuple (node, number), an OUTER
one a tuple of the tuple of nothing and a name.
"""

from onefacers.ends import is_outer
from onefacers.kinds import FACE


def net_of(kinds, words, mates):
    """The net of nodes, each with its kind's NAME, in a list of tuples, and of a dict from each end to its mate."""
    nodes = {}
    for node, word in words:
        nodes[node] = (word, [mates[(node, number)] for number in range(FACE, kinds.hands(word) + 1)])
    return (nodes, {end[1]: mates[end] for end in mates if is_outer(end)})


def _spread(nodes, goals, turn, pairs):
    """Where all nodes are led if the first end of each pair is led to the second; None if they can't be."""
    led = {}
    back = {}
    todo = list(pairs)
    while len(todo) > 0:
        end, aim = todo.pop()
        node, number = end
        goal, place = aim
        if is_outer(end):
            if aim != ((), turn[number]):
                return None
        # An OUTER end has a name in the place of a number, so no other end is led to it.
        elif number != place:
            return None
        elif node in led or goal in back:
            if led.get(node) != goal:
                return None
        else:
            word, mates = nodes[node]
            goal_word, goal_mates = goals[goal]
            if word != goal_word:
                return None
            led[node] = goal
            back[goal] = node
            todo.extend(list(zip(mates, goal_mates)))
    return led


def _piece_led(nodes, goals, turn, node, led):
    """Where the piece without OUTER ends that has this node is led, to one that is left; None if to none."""
    taken = {goal: True for goal in led.values()}
    for goal in goals:
        if goal not in taken:
            piece = _spread(nodes, goals, turn, [((node, FACE), (goal, FACE))])
            if piece is not None:
                return piece
    return None


def matching(one, other, turn):
    """A dict from the nodes of one net to those of the other, or None; turn leads OUTER names to names."""
    nodes, outers = one
    goals, aims = other
    if len(nodes) != len(goals) or sorted([turn[name] for name in outers]) != sorted(aims):
        return None
    pairs = [(outers[name], aims[turn[name]]) for name in outers]
    led = _spread(nodes, goals, turn, pairs)
    if led is None:
        return None
    # Any like piece will do: pieces that are like one and the same are like each other.
    for node in nodes:
        if node not in led:
            piece = _piece_led(nodes, goals, turn, node, led)
            if piece is None:
                return None
            led.update(piece)
    return led
