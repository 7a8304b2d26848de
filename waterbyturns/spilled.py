"""How much water a book spills, and papers about the long run."""

from math import gcd

from waterbyturns.errors import NotSafe
from waterbyturns.rates import least_rate
from waterbyturns.words import check_number, greater, is_place, lesser

_MOST_DAYS = 200


def spilled(judged, standing, days):
    """The least and the greatest number of units that can be spilled in the first days from the standing."""
    start = _start(judged, standing)
    check_number("days", days, 0, _MOST_DAYS)
    steps = _steps(judged, start)
    sums = {start: (0, 0)}
    for _ in range(days):
        sums = _sums_later(steps, sums)
    least = min([int(low) for low, _ in sums.values()])
    return least, max([int(high) for _, high in sums.values()])


def spill_paper(judged, standing):
    """The least rate of spilling (units, days), a run that has it (lead, ring), and the heights that prove it."""
    start = _start(judged, standing)
    steps = _steps(judged, start)
    nodes = sorted([int(node) for node in steps])
    places = {node: place for place, node in enumerate(nodes)}
    graph = [[(places[target], cost) for target, cost in steps[node]] for node in nodes]
    units, days, ring, heights = least_rate(graph)
    lead = _days_to(steps, start, nodes[ring[0][0]])
    rows = [_row(judged, node, height) for node, height in zip(nodes, heights)]
    return units, days, tuple(lead), tuple([day for _, day in ring]), rows


def check_spill(judged, standing, paper):
    """Whether the paper tells the least rate of spilling and proves it."""
    start = _start(judged, standing)
    steps = _steps(judged, start)
    units, days, lead, ring, rows = paper
    if units < 0 or days < 1 or gcd(units, days) != 1:
        return False
    if not _is_ring(steps, start, lead, ring, units, days):
        return False
    heights = _heights(judged, rows)
    if heights is None or len(heights) != len(steps):
        return False
    return all([node in heights for node in steps]) and _are_proof(steps, heights, units, days)


def _start(judged, standing):
    """The node of the standing on day 0; NotSafe if the book does not keep it."""
    if not judged.keeps(standing):
        raise NotSafe(standing)
    return judged.field.number(standing)


def _steps(judged, start):
    """For each node that is reached: for each day the node to which it leads and the units that it spills.

    A node is the number of a standing plus the size of the field for each place before its own.
    """
    steps = {}
    rest = [start]
    while rest:
        node = rest.pop()
        if node not in steps:
            steps[node] = _steps_from(judged, node)
            rest.extend([target for target, _ in steps[node]])
    return steps


def _steps_from(judged, node):
    field = judged.field
    place, number = divmod(node, field.size)
    first = (place + 1) % judged.book.period * field.size
    standing, turn = field.standing_at(number), judged.turn_at(number, place)
    return [(first + arrival, field.spill(standing, turn, day))
            for day, arrival in enumerate(judged.arrivals_at(number, place))]


def _sums_later(steps, sums):
    """The least and the greatest sum at each node one day later."""
    later = {}
    for node in sums:
        low, high = sums[node]
        for target, units in steps[node]:
            least, most = later.get(target, (low + units, high + units))
            later[target] = (lesser(least, low + units), greater(most, high + units))
    return later


def _days_to(steps, start, goal):
    """The days of a shortest run from the start to the goal."""
    ways = {start: []}
    nodes = [start]
    while goal not in ways:
        later = []
        for node in nodes:
            for day, (target, _) in enumerate(steps[node]):
                if target not in ways:
                    ways[target] = [*ways[node], day]
                    later.append(target)
        nodes = later
    return ways[goal]


def _row(judged, node, height):
    place, number = divmod(node, judged.field.size)
    return place, judged.field.standing_at(number), height


def _is_ring(steps, start, lead, ring, units, days):
    """Whether the lead comes to a node from which the ring comes back with that rate."""
    node, _ = _walked(steps, start, lead)
    if node is None or len(ring) == 0:
        return False
    back, total = _walked(steps, node, ring)
    return back == node and total * days == len(ring) * units


def _walked(steps, start, days):
    """The node to which the days lead and the units that they spill; None for the node if a day is no place."""
    node, total = start, 0
    for day in days:
        if not is_place(day, len(steps[node])):
            return None, 0
        node, cost = steps[node][day]
        total += cost
    return node, total


def _heights(judged, rows):
    """The height of each node; None if a row names no node, or one for the second time."""
    heights = {}
    for place, standing, height in rows:
        if not is_place(place, judged.book.period) or not judged.field.fits(standing):
            return None
        node = place * judged.field.size + judged.field.number(standing)
        if node in heights:
            return None
        heights[node] = height
    return heights


def _are_proof(steps, heights, units, days):
    for node in steps:
        for target, cost in steps[node]:
            if days * cost - units + heights[node] - heights[target] < 0:
                return False
    return True
