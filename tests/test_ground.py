"""Points 7 to 13: plots, gates and grounds, and what point 2 says of them."""

import itertools
import unittest

from helper import OTHER_VALUES, error_of, raised
from waterbyturns.errors import BadName, BadNumber, BadTurn
from waterbyturns.ground import Gates, Ground, Plot


def subsets(names):
    """All lists of different names, in every order."""
    return [list(row) for size in range(len(names) + 1) for row in itertools.permutations(names, size)]


def ground_of(names, *groups, tank=3):
    return Ground([Plot(name, 3, 2) for name in names], Gates(*groups), tank)


def many_gates():
    """All gates over a, b and c, from every list of at most three groups, each once."""
    groups = [list(row) for size in range(4) for row in itertools.combinations("abc", size)]
    chosen = [row for size in range(4) for row in itertools.combinations(groups, size)]
    return [Gates(*row) for row in chosen]


def allowed(gates):
    """The sets of names that the gates allow, found by asking for each one."""
    return {frozenset(turn) for turn in subsets("abc") if turn in gates}


class PlotTest(unittest.TestCase):
    def test_attributes(self):
        for hold, drink in itertools.product(range(1, 9), repeat=2):
            plot = Plot("abcdefgh", hold, drink)
            self.assertEqual((plot.name, plot.hold, plot.drink), ("abcdefgh", hold, drink))

    def test_numbers_out_of_range(self):
        for value in [-1, 0, 9, 10, 10 ** 20]:
            self.assertEqual(error_of(Plot, "a", value, 1), raised(BadNumber, what="hold", value=value))
            self.assertEqual(error_of(Plot, "a", 1, value), raised(BadNumber, what="drink", value=value))

    def test_what_is_no_integer(self):
        for value in OTHER_VALUES:
            self.assertIs(error_of(Plot, "a", value, 1)[1]["value"], value)
            self.assertIs(error_of(Plot, "a", 1, value)[1]["value"], value)

    def test_invalid_names(self):
        for name in ["", "abcdefghi", "A", "a1", None, 3, ["a"]]:
            self.assertEqual(error_of(Plot, name, 1, 1), raised(BadName, name=name))

    def test_the_order_of_the_checks(self):
        self.assertEqual(error_of(Plot, "A", 0, 0), raised(BadName, name="A"))
        self.assertEqual(error_of(Plot, "a", 9, 0), raised(BadNumber, what="hold", value=9))

    def test_equal_if_all_three_are_equal(self):
        rows = list(itertools.product(["a", "b"], [1, 2], [1, 2]))
        for one, two in itertools.product(rows, repeat=2):
            self.assertIs(Plot(*one) == Plot(*two), one == two)
            self.assertIs(Plot(*one) != Plot(*two), one != two)
        self.assertFalse(Plot("a", 1, 1) == ("a", 1, 1))


class GatesChecksTest(unittest.TestCase):
    def test_invalid_names(self):
        for name in ["", "A", "abcdefghi", 1, None, True, ["a"]]:
            self.assertEqual(error_of(Gates, ["a", name]), raised(BadName, name=name))

    def test_a_repeated_name_comes_with_the_whole_group_as_passed(self):
        self.assertEqual(error_of(Gates, ["b", "a", "b"]), raised(BadTurn, turn=("b", "a", "b")))
        self.assertEqual(error_of(Gates, ("a", "a")), raised(BadTurn, turn=("a", "a")))

    def test_the_names_of_a_group_come_before_its_repetition(self):
        self.assertEqual(error_of(Gates, ["a", "a", "B", "C"]), raised(BadName, name="B"))

    def test_an_earlier_group_comes_first(self):
        self.assertEqual(error_of(Gates, ["a"], ["b", "b"], ["C"]), raised(BadTurn, turn=("b", "b")))
        self.assertEqual(error_of(Gates, ["a"], ["C"], ["b", "b"]), raised(BadName, name="C"))

    def test_groups_that_would_be_left_out_are_checked(self):
        self.assertEqual(error_of(Gates, ["a", "b"], ["a", "a"]), raised(BadTurn, turn=("a", "a")))


class GroupsTest(unittest.TestCase):
    def test_names_and_groups_are_sorted(self):
        self.assertEqual(Gates(["c", "a"], ["b", "a"]).groups, (("a", "b"), ("a", "c")))
        self.assertEqual(Gates(["z"], ["b", "y", "a"], ["b", "c"]).groups, (("a", "b", "y"), ("b", "c"), ("z",)))

    def test_names_that_begin_alike(self):
        self.assertEqual(Gates(["ab"], ["a", "c"], ["abc"], ["aa"]).groups, (("a", "c"), ("aa",), ("ab",), ("abc",)))
        self.assertEqual(Gates(["ab", "c"], ["a", "zz"]).groups, (("a", "zz"), ("ab", "c")))
        self.assertEqual(Gates(["ab", "c"], ["ab", "ca"], ["abc", "b"]).groups,
                         (("ab", "c"), ("ab", "ca"), ("abc", "b")))

    def test_the_order_is_that_of_the_tuples(self):
        names = ["a", "aa", "ab", "b", "ba", "z", "abcdefgh"]
        pairs = [list(row) for row in itertools.permutations(names, 2)]
        self.assertEqual(Gates(*pairs).groups, tuple(sorted({tuple(sorted(row)) for row in pairs})))

    def test_empty_contained_and_equal_groups_are_left_out(self):
        self.assertEqual(Gates().groups, ())
        self.assertEqual(Gates([], ()).groups, ())
        self.assertEqual(Gates([], ["a"]).groups, (("a",),))
        self.assertEqual(Gates(["a", "b"], ["b", "a"], ("a", "b")).groups, (("a", "b"),))
        self.assertEqual(Gates(["a"], ["a", "b"], ["b"], ["c"]).groups, (("a", "b"), ("c",)))
        self.assertEqual(Gates(["a", "b"], ["b", "c"], ["a", "c"], ["b"]).groups,
                         (("a", "b"), ("a", "c"), ("b", "c")))

    def test_the_order_of_the_groups_does_not_matter(self):
        rows = [["a"], ["b", "a"], ["c"], ["c", "d"], []]
        for order in itertools.permutations(rows):
            self.assertEqual(Gates(*order).groups, (("a", "b"), ("c", "d")))

    def test_groups_may_have_more_names_than_a_ground_has_plots(self):
        self.assertEqual(Gates(list("gfedcba"), ["h"]).groups, (tuple("abcdefg"), ("h",)))

    def test_passed_lists_are_copied_and_not_changed(self):
        group = ["b", "a"]
        gates = Gates(group)
        self.assertEqual(group, ["b", "a"])
        group.append("c")
        self.assertEqual(gates.groups, (("a", "b"),))


class GatesOperatorsTest(unittest.TestCase):
    def test_allowed_turns(self):
        gates = Gates(["a", "b"], ["c"])
        for turn in [[], (), ["a"], ("b",), ["a", "b"], ("b", "a"), ["c"]]:
            self.assertIs(turn in gates, True, turn)
        for turn in [["a", "c"], ("a", "b", "c"), ["b", "c"]]:
            self.assertIs(turn in gates, False, turn)

    def test_the_empty_turn_is_always_allowed(self):
        for gates in [Gates(), Gates([]), Gates(["a"])]:
            self.assertIs([] in gates, True)
            self.assertIs(() in gates, True)

    def test_repeated_and_unknown_names(self):
        gates = Gates(["a", "b"])
        self.assertIs(["a", "a"] in gates, True)
        self.assertIs(("a", "b", "a", "b", "a") in gates, True)
        for name in ["x", "A", "", "abcdefghi", 1, None, True, ["a"], "ab"]:
            self.assertIs([name] in gates, False, name)
            self.assertIs(("a", name) in gates, False, name)

    def test_comparisons_follow_the_allowed_turns(self):
        for one, two in itertools.product(many_gates(), repeat=2):
            self.assertIs(one <= two, allowed(one) <= allowed(two))
            self.assertIs(one == two, allowed(one) == allowed(two))
            self.assertIs(one != two, allowed(one) != allowed(two))

    def test_or_allows_what_one_of_both_allows(self):
        for one, two in itertools.product(many_gates()[::3], repeat=2):
            self.assertEqual(allowed(one | two), allowed(one) | allowed(two))

    def test_and_allows_what_both_allow(self):
        for one, two in itertools.product(many_gates()[::3], repeat=2):
            self.assertEqual(allowed(one & two), allowed(one) & allowed(two))

    def test_what_operators_return_is_in_the_same_form(self):
        one, two = Gates(["a", "b"], ["b", "c"]), Gates(["c", "a"], ["b"])
        self.assertEqual((one | two).groups, (("a", "b"), ("a", "c"), ("b", "c")))
        self.assertEqual((one & two).groups, (("a",), ("b",), ("c",)))
        self.assertEqual((one & Gates(["d"])).groups, ())
        self.assertEqual(one.groups, (("a", "b"), ("b", "c")))
        self.assertEqual(two.groups, (("a", "c"), ("b",)))

    def test_len_is_the_number_of_groups(self):
        self.assertEqual(len(Gates()), 0)
        self.assertEqual(len(Gates([], [])), 0)
        self.assertEqual(len(Gates(["a"], ["a", "b"], ["c"])), 2)

    def test_gates_equal_nothing_else(self):
        self.assertFalse(Gates() == ())
        self.assertFalse(Gates(["a"]) == (("a",),))


class GroundChecksTest(unittest.TestCase):
    def test_the_number_of_plots(self):
        for count in range(8):
            plots = [Plot("abcdefgh"[place], 1, 1) for place in range(count)]
            if 1 <= count <= 4:
                self.assertEqual(len(Ground(plots, Gates(), 0).plots), count)
            else:
                self.assertEqual(error_of(Ground, plots, Gates(), 0), raised(BadNumber, what="plots", value=count))

    def test_a_name_that_an_earlier_plot_has(self):
        plots = [Plot("a", 1, 1), Plot("b", 1, 1), Plot("b", 2, 1), Plot("a", 3, 1)]
        self.assertEqual(error_of(Ground, plots, Gates(), 0), raised(BadName, name="b"))

    def test_gates_with_unknown_names(self):
        plots = [Plot("b", 1, 1)]
        self.assertEqual(error_of(Ground, plots, Gates(["z"], ["c", "b"]), 0), raised(BadName, name="c"))
        self.assertEqual(error_of(Ground, plots, Gates(["z", "b"], ["a", "y"]), 0), raised(BadName, name="a"))
        self.assertEqual(error_of(Ground, plots, Gates(["b", "z"], ["b", "y"]), 0), raised(BadName, name="y"))

    def test_the_tank_size(self):
        for tank in range(9):
            self.assertEqual(Ground([Plot("a", 1, 1)], Gates(), tank).capacity, tank)
        for tank in [-1, 9, 100]:
            self.assertEqual(error_of(Ground, [Plot("a", 1, 1)], Gates(), tank),
                             raised(BadNumber, what="tank", value=tank))
        for tank in OTHER_VALUES:
            self.assertIs(error_of(Ground, [Plot("a", 1, 1)], Gates(), tank)[1]["value"], tank)

    def test_the_order_of_the_checks(self):
        twice = [Plot("a", 1, 1), Plot("a", 1, 1)]
        wrong = Gates(["z"])
        self.assertEqual(error_of(Ground, twice * 3, wrong, 9), raised(BadNumber, what="plots", value=6))
        self.assertEqual(error_of(Ground, [], wrong, 9), raised(BadNumber, what="plots", value=0))
        self.assertEqual(error_of(Ground, twice, wrong, 9), raised(BadName, name="a"))
        self.assertEqual(error_of(Ground, twice[:1], wrong, 9), raised(BadName, name="z"))

    def test_equality(self):
        a, b = Plot("a", 1, 1), Plot("b", 1, 1)
        ground = Ground([a, b], Gates(["a"]), 3)
        self.assertTrue(ground == Ground((Plot("a", 1, 1), b), Gates([], ["a"]), 3))
        self.assertFalse(ground != Ground([a, b], Gates(["a"]), 3))
        self.assertFalse(ground == Ground([b, a], Gates(["a"]), 3))
        self.assertFalse(ground == Ground([a], Gates(["a"]), 3))
        self.assertFalse(ground == Ground([a, Plot("b", 1, 2)], Gates(["a"]), 3))
        self.assertFalse(ground == Ground([a, b], Gates(["b"]), 3))
        self.assertFalse(ground == Ground([a, b], Gates(["a"]), 4))
        self.assertFalse(ground == "ground")

    def test_attributes_are_copies(self):
        plots = [Plot("b", 1, 1), Plot("a", 1, 1)]
        ground = Ground(plots, Gates(), 3)
        plots.pop()
        self.assertEqual(ground.plots, (Plot("b", 1, 1), Plot("a", 1, 1)))
        self.assertEqual(ground.names, ("b", "a"))
        self.assertEqual(ground.gates, Gates())


class CapacityTest(unittest.TestCase):
    def test_both_ways_to_change_it(self):
        ground = ground_of("ab")
        for size in range(9):
            ground.capacity = size
            self.assertEqual(ground.capacity, size)
            self.assertIsNone(ground.resize(8 - size))
            self.assertEqual(ground.capacity, 8 - size)

    def test_wrong_sizes_change_nothing(self):
        ground = ground_of("ab", tank=5)
        for size in [-1, 9, 10 ** 9] + OTHER_VALUES:
            for change in [ground.resize, lambda value: setattr(ground, "capacity", value)]:
                kind, attributes = error_of(change, size)
                self.assertIs(kind, BadNumber)
                self.assertEqual(attributes["what"], "tank")
                self.assertIs(attributes["value"], size)
                self.assertEqual(ground.capacity, 5)

    def test_equality_follows_the_size(self):
        one, two = ground_of("ab", tank=5), ground_of("ab", tank=6)
        self.assertFalse(one == two)
        one.resize(6)
        self.assertTrue(one == two)

    def test_with_tank(self):
        ground = ground_of("ab", ["a"], tank=5)
        other = ground.with_tank(7)
        self.assertTrue(other == ground_of("ab", ["a"], tank=7))
        self.assertEqual(ground.capacity, 5)
        other.resize(0)
        self.assertEqual(ground.capacity, 5)
        self.assertEqual(error_of(ground.with_tank, 9), raised(BadNumber, what="tank", value=9))
        self.assertIs(error_of(ground.with_tank, True)[1]["value"], True)

    def test_with_tank_of_the_same_size_is_another_object(self):
        ground = ground_of("ab", tank=5)
        other = ground.with_tank(5)
        ground.resize(1)
        self.assertEqual(other.capacity, 5)

    def test_with_gates(self):
        ground = ground_of("ab", ["a"], tank=5)
        other = ground.with_gates(Gates(["a", "b"]))
        self.assertEqual(other.gates, Gates(["a", "b"]))
        self.assertEqual(other.turns(), [(), ("a",), ("b",), ("a", "b")])
        self.assertEqual(ground.gates, Gates(["a"]))
        self.assertEqual(ground.turns(), [(), ("a",)])
        self.assertEqual(error_of(ground.with_gates, Gates(["a"], ["z", "y"])), raised(BadName, name="y"))

    def test_with_gates_keeps_the_present_size(self):
        ground = ground_of("ab", tank=5)
        ground.resize(2)
        self.assertEqual(ground.with_gates(Gates(["b"])).capacity, 2)


class TurnsTest(unittest.TestCase):
    def test_all_turns_in_the_order_of_their_numbers(self):
        ground = ground_of(["d", "a", "c", "b"], ["a", "b", "c", "d"])
        numbers = {"d": 1, "a": 2, "c": 4, "b": 8}
        turns = ground.turns()
        self.assertEqual([sum(numbers[name] for name in turn) for turn in turns], list(range(16)))
        self.assertEqual(turns[:5], [(), ("d",), ("a",), ("d", "a"), ("c",)])
        self.assertEqual(turns[15], ("d", "a", "c", "b"))

    def test_only_allowed_turns(self):
        self.assertEqual(ground_of("ab").turns(), [()])
        self.assertEqual(ground_of("ba", ["a"]).turns(), [(), ("a",)])
        self.assertEqual(ground_of("cab", ["a", "b"], ["c"]).turns(), [(), ("c",), ("a",), ("b",), ("a", "b")])

    def test_the_returned_list_is_new(self):
        ground = ground_of("ab", ["a"])
        ground.turns().clear()
        self.assertEqual(ground.turns(), [(), ("a",)])

    def test_turn_of_brings_names_into_the_order_of_the_ground(self):
        ground = ground_of("cab", ["a", "b", "c"])
        for names in subsets("abc"):
            expected = tuple(name for name in "cab" if name in names)
            self.assertEqual(ground.turn_of(names), expected)
            self.assertEqual(ground.turn_of(tuple(names)), expected)

    def test_turn_of_names_that_no_plot_has(self):
        ground = ground_of("ab", ["a"])
        self.assertEqual(error_of(ground.turn_of, ["a", "z", "y"]), raised(BadName, name="z"))
        for name in ["A", "", "ab", 1, None, ["a"]]:
            self.assertEqual(error_of(ground.turn_of, [name]), raised(BadName, name=name))

    def test_turn_of_repeated_names_and_turns_that_are_not_allowed(self):
        ground = ground_of("ab", ["a"], ["b"])
        self.assertEqual(error_of(ground.turn_of, ["a", "a"]), raised(BadTurn, turn=("a", "a")))
        self.assertEqual(error_of(ground.turn_of, ["b", "a"]), raised(BadTurn, turn=("b", "a")))
        self.assertEqual(error_of(ground.turn_of, ("a", "b")), raised(BadTurn, turn=("a", "b")))

    def test_unknown_names_come_before_everything_else(self):
        ground = ground_of("ab", ["a"])
        self.assertEqual(error_of(ground.turn_of, ["a", "a", "z"]), raised(BadName, name="z"))
        self.assertEqual(error_of(ground.turn_of, ["b", "b", "z"]), raised(BadName, name="z"))

    def test_passed_names_are_not_changed(self):
        names = ["b", "a"]
        ground_of("ab", ["a", "b"]).turn_of(names)
        self.assertEqual(names, ["b", "a"])

    def test_place_of_counts_from_0(self):
        ground = ground_of("cab")
        self.assertEqual([ground.place_of(name) for name in "cab"], [0, 1, 2])
        for name in ["d", "", "ca", "A", None, 0]:
            self.assertEqual(error_of(ground.place_of, name), raised(BadName, name=name))


if __name__ == "__main__":
    unittest.main()
