"""Rings of least mean cost, beside a slow search (for point 65)."""

import random
import unittest
from fractions import Fraction

from waterbyturns.rates import least_rate


def rate_by_words(graph):
    """The least mean cost of a ring: the least sum of each number of steps tells it."""
    count = len(graph)
    sums = [[0] * count]
    for _ in range(count):
        later = [None] * count
        for node, steps in enumerate(graph):
            for target, cost in steps:
                if sums[-1][node] is not None:
                    total = sums[-1][node] + cost
                    later[target] = total if later[target] is None else min(later[target], total)
        sums.append(later)
    means = []
    for node in range(count):
        if sums[-1][node] is not None:
            means.append(max(Fraction(sums[-1][node] - sums[steps][node], count - steps)
                             for steps in range(count) if sums[steps][node] is not None))
    return min(means)


class RatesTest(unittest.TestCase):
    def check_rate(self, graph):
        units, days, ring, heights = least_rate(graph)
        self.assertEqual(Fraction(units, days), rate_by_words(graph))
        self.assertEqual((Fraction(units, days).numerator, Fraction(units, days).denominator), (units, days))
        total = sum(graph[node][step][1] for node, step in ring)
        self.assertEqual(total * days, len(ring) * units)
        for (node, step), (later, _) in zip(ring, ring[1:] + ring[:1]):
            self.assertEqual(graph[node][step][0], later)
        self.assertEqual(len(heights), len(graph))
        for node, steps in enumerate(graph):
            for target, cost in steps:
                self.assertGreaterEqual(days * cost - units + heights[node] - heights[target], 0)
        return len(ring)

    def test_some_graphs(self):
        pick, lengths = random.Random(77), set()
        for _ in range(400):
            count, most = pick.randint(1, 10), pick.choice([1, 3, 9, 40])
            graph = [[(pick.randrange(count), pick.randint(0, most)) for _ in range(pick.randint(1, 4))]
                     for _ in range(count)]
            lengths.add(self.check_rate(graph))
        self.assertGreaterEqual(lengths, {1, 2, 3, 4, 5})

    def test_one_long_ring(self):
        count = 200
        self.assertEqual(self.check_rate([[((node + 1) % count, node % 3)] for node in range(count)]), count)
        graph = [[((node + 1) % count, 1), ((node - 1) % count, 2)] for node in range(count)]
        graph[7].append((7, 1))
        self.check_rate(graph)

    def test_a_ring_behind_another_one(self):
        self.assertEqual(least_rate([[(0, 3), (1, 9)], [(1, 2), (2, 9)], [(2, 3)]])[:3], (2, 1, [(1, 0)]))


if __name__ == "__main__":
    unittest.main()
