"""Ways and flows through networks whose edges have limited room.

A network is a list of arcs (start, end, name). Each edge gives two arcs, one for each direction,
side by side: the arc with the number k runs against the arc with the number k ^ 1. A list of rooms
tells for each arc how much more can pass along it.
"""

from spareskept.rows.rowsets import COST, NAME
from spareskept.selection.forest import nodes_of


def make_arcs(rows, a, b):
    """Return the arcs of the rows."""
    arcs = []
    for row in rows:
        start, end = nodes_of(row, a, b)
        arcs.append((start, end, row[NAME]))
        arcs.append((end, start, row[NAME]))
    return arcs


def make_rooms(rows):
    """Return the rooms of the arcs of the rows while nothing passes: the costs."""
    return [row[COST] for row in rows for _ in range(2)]


def find_entries(arcs, rooms, start):
    """Return a dict from each node in reach to the number of the arc that enters it first, None for the start."""
    leaving = {}
    for number, arc in enumerate(arcs):
        if rooms[number] > 0:
            leaving.setdefault(arc[0], []).append(number)
    entries = {start: None}
    border = [start]
    while border:
        reached = []
        for node in border:
            for number in leaving.get(node, []):
                end = arcs[number][1]
                if end not in entries:
                    entries[end] = number
                    reached.append(end)
        border = reached
    return entries


def find_way(arcs, rooms, start, goal):
    """Return the numbers of the arcs on a shortest way to the goal, in order, or [] if it is out of reach."""
    entries = find_entries(arcs, rooms, start)
    way = []
    number = entries.get(goal, None)
    while number is not None:
        way.append(number)
        number = entries[arcs[number][0]]
    return way[::-1]


def fill_network(arcs, rooms, start, goal):
    """Return the rooms that are left when as much as possible passes from the start to the goal."""
    left = list(rooms)
    way = find_way(arcs, left, start, goal)
    while way:
        amount = min([left[number] for number in way])
        for number in way:
            left[number] -= amount
            # What passes one way can be sent back the other way.
            left[number ^ 1] += amount
        way = find_way(arcs, left, start, goal)
    return left


def split_flow(arcs, flows, start, goal):
    """Return pairs (amount, names), one for each of the ways into which the flow along the arcs is split."""
    left = list(flows)
    pairs = []
    way = find_way(arcs, left, start, goal)
    while way:
        amount = min([left[number] for number in way])
        for number in way:
            left[number] -= amount
        pairs.append((amount, tuple([arcs[number][2] for number in way])))
        way = find_way(arcs, left, start, goal)
    return tuple(pairs)
