"""Points 28 to 30: games, and what point 2 says of their functions."""

import copy
import itertools
import unittest

from helper import OTHER_VALUES, error_of, raised
from waterbyturns.errors import BadNumber, TooMany
from waterbyturns.rounds import good_options, ranks, spoilers


def kept_by_words(game):
    """Point 28: the greatest set in which each node has an option that stays in it."""
    kept = set(range(len(game)))
    while True:
        left = {node for node in kept
                if any(option is not None and set(option) <= kept for option in game[node])}
        if left == kept:
            return kept
        kept = left


def ranks_by_words(game):
    """Point 29: rank after rank, the nodes whose options all fail by nodes of lesser ranks."""
    found = [0] * len(game)
    for rank in range(1, len(game) + 2):
        fresh = [node for node, options in enumerate(game) if found[node] == 0
                 and all(option is None or any(found[target] > 0 for target in option) for option in options)]
        if not fresh:
            return found
        for node in fresh:
            found[node] = rank
    return found


def small_games():
    """All games of two nodes with up to two options, and many of three nodes."""
    options = [None, [], [0], [1], [0, 1]]
    nodes = [list(row) for size in range(3) for row in itertools.product(options, repeat=size)]
    games = [list(row) for row in itertools.product(nodes, repeat=2)]
    options = [None, [0], [2, 1], [1], [0, 2], [2]]
    nodes = [list(row) for size in range(1, 3) for row in itertools.combinations(options, size)]
    return games + [list(row) for row in itertools.product(nodes[::2], nodes[1::3], nodes)]


def chain(length):
    """Each node leads only to the next one; the last one fails."""
    return [[[node + 1]] for node in range(length - 1)] + [[None]]


class RanksTest(unittest.TestCase):
    def test_kept_nodes_are_the_greatest_set(self):
        for game in small_games():
            kept = kept_by_words(game)
            self.assertEqual([rank == 0 for rank in ranks(game)], [node in kept for node in range(len(game))], game)

    def test_ranks(self):
        for game in small_games():
            self.assertEqual(ranks(game), ranks_by_words(game), game)

    def test_single_nodes(self):
        for options, rank in [([], 1), ([None], 1), ([None, None], 1), ([[]], 0), ([None, []], 0), ([[0]], 0),
                              ([[0, 0]], 0), ([None, [0]], 0)]:
            self.assertEqual(ranks([options]), [rank], options)

    def test_the_other_side_chooses_within_an_option(self):
        self.assertEqual(ranks([[[1, 2]], [None], [[]]]), [2, 1, 0])
        self.assertEqual(ranks([[[1, 2]], [[3]], [[4]], [None], [[3]]]), [3, 2, 3, 1, 2])

    def test_the_hand_chooses_the_option_that_fails_last(self):
        self.assertEqual(ranks([[[1], [2], None], [None], [[3]], [[1]]]), [4, 1, 3, 2])
        self.assertEqual(ranks([[[1], [2]], [None], [[2]]]), [0, 1, 0])

    def test_repeated_targets_and_options(self):
        self.assertEqual(ranks([[[1, 1], [1, 1]], [None, None]]), [2, 1])
        self.assertEqual(ranks([[[1, 1, 0], [0, 0]], []]), [0, 1])

    def test_rings_are_kept(self):
        self.assertEqual(ranks([[[1]], [[2]], [[0]]]), [0, 0, 0])
        self.assertEqual(ranks([[[1, 3]], [[2]], [[0]], []]), [2, 4, 3, 1])

    def test_the_empty_game(self):
        self.assertEqual(ranks([]), [])

    def test_tuples_may_be_passed(self):
        self.assertEqual(ranks(([(1,), None], ((0, 1),))), [0, 0])

    def test_the_returned_list_is_new_and_the_game_is_not_changed(self):
        game = [[[1, 2], None], [[]], []]
        before = copy.deepcopy(game)
        ranks(game).clear()
        self.assertEqual(ranks(game), [2, 0, 1])
        self.assertEqual(game, before)


class RanksErrorsTest(unittest.TestCase):
    def test_numbers_that_are_not_in_the_game(self):
        for value in [-1, 2, 3, 12000, 10 ** 20] + OTHER_VALUES:
            kind, attributes = error_of(ranks, [[[0, 1]], [[], None, [1, value]]])
            self.assertIs(kind, BadNumber)
            self.assertEqual(attributes["what"], "node")
            self.assertIs(attributes["value"], value)

    def test_of_several_the_first_one(self):
        self.assertEqual(error_of(ranks, [[None, [0], [1, 7, 8]], [[9]]]), raised(BadNumber, what="node", value=7))
        self.assertEqual(error_of(ranks, [[[5], [4]], [[3]]]), raised(BadNumber, what="node", value=5))
        self.assertEqual(error_of(ranks, [[], [[-2], [-1]]]), raised(BadNumber, what="node", value=-2))

    def test_the_number_of_nodes(self):
        for count in [11999, 12000]:
            self.assertEqual(ranks([[[]]] * count), [0] * count)
        for count in [12001, 12002, 20000]:
            self.assertEqual(error_of(ranks, [[[]]] * count), raised(TooMany, limit=12000))

    def test_too_many_nodes_come_first(self):
        self.assertEqual(error_of(ranks, [[[-1]]] * 12001), raised(TooMany, limit=12000))
        self.assertEqual(error_of(ranks, [[[-1]]] * 12000), raised(BadNumber, what="node", value=-1))

    def test_a_long_chain(self):
        self.assertEqual(ranks(chain(12000)), list(range(12000, 0, -1)))

    def test_many_options(self):
        game = [[[(node * 7 + option) % 12000, (node + 1) % 12000] for option in range(4)] + [None]
                for node in range(12000)]
        self.assertEqual(ranks(game), [0] * 12000)
        game[11999] = []
        self.assertEqual(ranks(game)[11998:], [2, 1])


class OptionsTest(unittest.TestCase):
    def test_good_options(self):
        for game in small_games():
            found = ranks(game)
            for node, options in enumerate(game):
                expected = [place for place, option in enumerate(options)
                            if option is not None and not any(found[target] for target in option)]
                self.assertEqual(good_options(game, found, node), expected)
                self.assertEqual(found[node] == 0, expected != [])

    def test_options_that_are_empty_none_or_lost(self):
        game = [[None, [], [1], [0, 2], [2], [0]], [None], [[]]]
        self.assertEqual(good_options(game, ranks(game), 0), [1, 3, 4, 5])
        self.assertEqual(good_options(game, ranks(game), 1), [])

    def test_spoilers(self):
        for game in small_games():
            found = ranks(game)
            for node, options in enumerate(game):
                answers = spoilers(game, found, node)
                if found[node] == 0:
                    self.assertEqual(answers, [])
                    continue
                self.assertEqual(len(answers), len(options))
                for option, answer in zip(options, answers):
                    if option is None:
                        self.assertIsNone(answer)
                    else:
                        self.assertEqual(answer, [n for n in option if 0 < found[n] < found[node]][0])

    def test_the_first_node_of_the_list_that_spoils(self):
        game = [[[5, 3, 2, 1], None, [4, 1, 2]], [None], [[1]], [[2, 4]], [[]], [[0]]]
        found = ranks(game)
        self.assertEqual(found, [2, 1, 2, 3, 0, 3])
        self.assertEqual(spoilers(game, found, 0), [1, None, 1])
        self.assertEqual(spoilers(game, found, 3), [2])
        self.assertEqual(spoilers(game, found, 1), [None])
        self.assertEqual(spoilers(game, found, 4), [])
        self.assertEqual(spoilers([[]], [1], 0), [])

    def test_returned_lists_are_new_and_nothing_is_changed(self):
        game = [[[0], None], [[2], [2, 0]], []]
        found = ranks(game)
        before = copy.deepcopy((game, found))
        good_options(game, found, 0).clear()
        spoilers(game, found, 1).clear()
        self.assertEqual(good_options(game, found, 0), [0])
        self.assertEqual(spoilers(game, found, 1), [2, 2])
        self.assertEqual((game, found), before)


if __name__ == "__main__":
    unittest.main()
