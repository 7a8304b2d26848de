"""Rings of a graph that cost least in the long run."""

from math import gcd


def least_rate(graph):
    """The least mean cost of a ring in lowest terms as (units, days), such a ring, and heights that prove it.

    A node of the graph is a list of steps (target, cost), at least one; a ring is a list of pairs (node, place of the
    step). For each step from u to v that costs w: days * w - units + height of u - height of v is 0 or more.
    """
    ring = _first_ring(graph)
    while True:
        units, days = _rate(graph, ring)
        heights, cheaper = _settled(graph, units, days)
        if cheaper is None:
            return units, days, ring, heights
        ring = cheaper


def _first_ring(graph):
    """The best of the rings to which the cheapest step of each node leads."""
    chosen = [_cheapest(steps) for steps in graph]
    links = [graph[node][step][0] for node, step in enumerate(chosen)]
    return _best(graph, [[(node, chosen[node]) for node in loop] for loop in _loops(links)])


def _settled(graph, units, days):
    """The heights that prove the rate, and None; or heights that prove nothing, and a ring with a lesser rate."""
    heights = [0 for _ in graph]
    ways = [None for _ in graph]
    changed = True
    while changed:
        changed = False
        for node, steps in enumerate(graph):
            for step, (target, cost) in enumerate(steps):
                height = heights[node] + days * cost - units
                if height < heights[target]:
                    heights[target] = height
                    ways[target] = (node, step)
                    changed = True
        # As long as there is a cheaper ring the heights fall for ever, and the ways by which they fell close to one.
        links = [None if way is None else way[0] for way in ways]
        rings = [[ways[at] for at in loop[::-1]] for loop in _loops(links)]
        if rings:
            return heights, _best(graph, rings)
    return heights, None


def _cheapest(steps):
    """The place of the first step of the least cost."""
    best = 0
    for step, (_, cost) in enumerate(steps):
        if cost < steps[best][1]:
            best = step
    return best


def _loops(links):
    """The loops, as lists of nodes, in which the links from node to node end; a link may be None."""
    loops = []
    tried = [None for _ in links]
    for start in range(len(links)):
        node = start
        while node is not None and tried[node] is None:
            tried[node] = start
            node = links[node]
        # Nodes that an earlier start has tried lead to a loop that is known.
        if node is not None and tried[node] == start:
            loops.append(_loop_from(links, node))
    return loops


def _loop_from(links, start):
    loop = [start]
    while links[loop[-1]] != start:
        loop.append(links[loop[-1]])
    return loop


def _best(graph, rings):
    """The first ring of the least mean cost."""
    best = rings[0]
    for ring in rings:
        if _cost(graph, ring) * len(best) < _cost(graph, best) * len(ring):
            best = ring
    return best


def _cost(graph, ring):
    return sum([graph[node][step][1] for node, step in ring])


def _rate(graph, ring):
    """The mean cost of the ring in lowest terms."""
    cost = _cost(graph, ring)
    common = gcd(cost, len(ring))
    return cost // common, len(ring) // common
