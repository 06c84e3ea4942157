"""The string of a track: the cord that is laid along it and drawn taut."""

from tautstrings.corners import caught_marks
from tautstrings.pieces import turn
from tautstrings.turns import laps_past, turn_past
from tautstrings.words import ray_crossing


class Node:
    """A place of the cord and the number of the mark there, or None; the laps round it count at a mark alone."""

    def __init__(self, place, mark, laps):
        self.place = place
        self.mark = mark
        self.laps = laps


class Touch:
    """A node of the taut cord at a mark; just is 1 if the cord goes round it by so many half turns and no more."""

    def __init__(self, place, mark, side, halves, just):
        self.place = place
        self.mark = mark
        self.side = side
        self.halves = halves
        self.just = just


def turn_at(nodes, at):
    return turn_past(nodes[at].place, nodes[at - 1].place, nodes[at + 1].place, nodes[at].laps)


def is_held(nodes, at):
    return nodes[at].mark is not None and turn_at(nodes, at)[1] >= 1


def touch_at(nodes, at):
    told = turn_at(nodes, at)
    return Touch(nodes[at].place, nodes[at].mark, told[0], told[1], told[2])


def turned(node, a, b):
    """The node as it is when the cord beside it turns from a to b as well, which is less than half a turn."""
    if node.mark is None:
        return node
    return Node(node.place, node.mark, node.laps + ray_crossing(a, b, node.place))


def nodes_along(u, numbers, w, side, marks):
    """Nodes at these marks, which the cord passes on the outside on its way from u to w."""
    places = [u] + [marks[number] for number in numbers] + [w]
    nodes = []
    for k, number in enumerate(numbers):
        nodes.append(Node(places[k + 1], number, laps_past(places[k + 1], places[k], places[k + 2], side)))
    return nodes


def drawn_straight(before, corner, behind, marks):
    """What comes in the stead of three nodes as the one in the middle, which no mark holds, is taken away."""
    u = before.place
    v = corner.place
    w = behind.place
    side = 1 if turn(u, v, w) > 0 else -1
    caught = nodes_along(u, caught_marks(u, v, w, side, marks), w, side, marks)
    first = turned(before, v, (caught + [behind])[0].place)
    last = turned(behind, ([before] + caught)[-1].place, v)
    return [first] + caught + [last]


def taut_nodes(places, marks):
    """The nodes of the track's string among these marks."""
    # The order matters: each corner of the track is drawn straight only when the cord ahead of it is taut. So all that
    # is caught on the way is on the corner's side, where it's held ever more; a mark that lets go was on the other
    # side, and loses less than half a turn before it's looked at. The cord then never runs straight back at such a
    # mark, which is the one way in which two nodes at one mark could come to stand side by side.
    nodes = [Node(place, None, 0) for place in places]
    at = 1
    while at < len(nodes) - 1:
        if is_held(nodes, at):
            at = at + 1
        else:
            nodes = nodes[:at - 1] + drawn_straight(nodes[at - 1], nodes[at], nodes[at + 1], marks) + nodes[at + 2:]
            # Of the nodes that were held, only the one ahead of the corner may be so no longer.
            at = max(1, at - 1)
    return nodes


def string_places(places, marks):
    return [node.place for node in taut_nodes(places, marks)]


def string_touches(places, marks):
    nodes = taut_nodes(places, marks)
    return [touch_at(nodes, at) for at in range(1, len(nodes) - 1)]
