"""Point [27], with points [2], [3], [11] and [12]: the orders with the least and the greatest fewest traps."""

import random
import unittest
from itertools import product

from lazyspill.errors import InvalidRegisters, InvalidTop, InvalidTree
from lazyspill.orders import best_order, trap_range, worst_order
from lazyspill.traps import fewest_traps
from lazyspill.trees import count_orders, is_tree, same_calls, trace_of_tree
from tests.samples import (
    ANY_VALUES, MOST_REGISTERS, first_error, levels_by_definition, orders_by_definition, raised, registers_error,
    top_error, tree_error, trees_up_to, trees_with,
)

FUNCTIONS = (trap_range, best_order, worst_order)
CALLS = [1, 2, 3, 4, 5, 2, 3, 4, 5, 2, 3, 4]
MACHINES = ((1, 0), (2, 0), (3, 0), (4, 0), (1, 1), (2, 1), (3, 1), (4, 1), (2, 2), (3, 2), (4, 2), (5, 2))


def traps_by_definition(tree, registers, top):
    """Return the number of the blocks less 1, straight from point [12]."""
    levels = levels_by_definition(trace_of_tree(tree), top)
    traps = 0
    block = []
    for level in levels:
        block.append(level)
        if max(block) - min(block) > registers - top:
            traps += 1
            block = [level]
    return traps


def some_trees(many, calls, few):
    """Return some trees with 2 to so few orders, the same ones at each call."""
    source = random.Random(5)
    found = []
    while len(found) < many:
        tree = [1]
        while len(tree) < source.randint(calls // 2, calls):
            deeper = source.random() < 0.4
            tree.append(tree[-1] + 1 if deeper else source.randint(1, tree[-1] + 1))
        if 2 <= count_orders(tree) <= few:
            found.append(tree)
    return found


class ExamplesTest(unittest.TestCase):

    def test_examples(self):
        self.assertEqual([trap_range(CALLS, 3, 0), fewest_traps(trace_of_tree(CALLS), 3, 0)], [(4, 5), 5])
        order = best_order(CALLS, 3, 0)
        self.assertIs(same_calls(order, CALLS), True)
        self.assertEqual(fewest_traps(trace_of_tree(order), 3, 0), 4)


class SlowWayTest(unittest.TestCase):

    def check(self, tree, orders, registers, top):
        """Compare what the functions return with the traps of all orders."""
        traps = {order: traps_by_definition(list(order), registers, top) for order in orders}
        wanted = (min(traps.values()), max(traps.values()))
        found = trap_range(tree, registers, top)
        self.assertEqual(found, wanted, (tree, registers, top))
        self.assertIs(type(found), tuple)
        for function, many in ((best_order, wanted[0]), (worst_order, wanted[1])):
            order = function(tree, registers, top)
            self.assertIs(type(order), list)
            self.assertEqual(traps.get(tuple(order)), many, (tree, registers, top))

    def test_all_small_trees(self):
        for tree in trees_up_to(5):
            for registers, top in MACHINES:
                self.check(tree, orders_by_definition(tree), registers, top)

    def test_trees_with_six_calls(self):
        for tree in trees_with(6):
            for registers, top in ((2, 0), (3, 0), (3, 1), (1, 1)):
                self.check(tree, orders_by_definition(tree), registers, top)

    def test_greater_trees(self):
        for tree in some_trees(40, 18, 150):
            orders = orders_by_definition(tree)
            for registers, top in ((2, 0), (3, 0), (4, 0), (3, 1), (4, 1), (5, 1), (5, 3)):
                self.check(tree, orders, registers, top)

    def test_calls_of_many_lengths(self):
        chains = [list(range(1, length + 1)) for length in (1, 2, 3, 4, 6)]
        for tree in (sum(chains, []), [1, *[level + 1 for level in sum(chains, [])]]):
            orders = orders_by_definition(tree)
            for registers, top in ((2, 0), (3, 0), (4, 1)):
                self.check(tree, orders, registers, top)


class GreatTreesTest(unittest.TestCase):

    def test_forty_calls(self):
        chains = [list(range(1, length + 1)) for length in (4, 5, 6, 7, 8, 9)]
        inner = [level + 1 for chain in chains[:4] for level in chain]
        inner_most = [level + 2 for length in (1, 2, 3, 4, 5) for level in range(1, length + 1)]
        trees = (
            sum(chains, [1]), [1, *inner, *range(1, 18)], [1, 2] * 6 + [3] * 5 + [4] * 6, list(range(1, 41)),
            [1, 2, *inner_most, 2, 3, 4, 2, 3, 2, *range(1, 8), *range(1, 6), *range(1, 4), 1, 2],
        )
        for tree in trees:
            self.assertLessEqual(len(tree), 40)
            self.assertIs(is_tree(tree), True)
            for registers, top in ((1, 0), (2, 0), (3, 0), (4, 1), (6, 0), (8, 0), (8, 8), (1008, 1000)):
                least, greatest = trap_range(tree, registers, top)
                best = best_order(tree, registers, top)
                worst = worst_order(tree, registers, top)
                self.assertIs(same_calls(best, tree), True)
                self.assertIs(same_calls(worst, tree), True)
                self.assertEqual(fewest_traps(trace_of_tree(best), registers, top), least)
                self.assertEqual(fewest_traps(trace_of_tree(worst), registers, top), greatest)
                self.assertTrue(least <= fewest_traps(trace_of_tree(tree), registers, top) <= greatest)

    def test_edges(self):
        for registers, top in ((1, 0), (1, 1), (8, 0), (MOST_REGISTERS, MOST_REGISTERS), (MOST_REGISTERS, MOST_REGISTERS - 8)):
            self.assertEqual(trap_range([], registers, top), (0, 0))
            self.assertEqual([best_order([], registers, top), worst_order([], registers, top)], [[], []])
            self.assertEqual([best_order([1], registers, top), worst_order([1], registers, top)], [[1], [1]])
        self.assertEqual([trap_range([1, 2], 1, 1), trap_range([1, 2], 2, 2), trap_range([1, 1], 1, 1)], [(2, 2), (0, 0), (0, 0)])
        self.assertEqual(trap_range(CALLS, MOST_REGISTERS, MOST_REGISTERS - 3), (0, 0))
        chain = list(range(1, 41))
        self.assertEqual([trap_range(chain, 8, 0), best_order(chain, 8, 0)], [(8, 8), chain])


class ErrorsTest(unittest.TestCase):

    def test_any_values_for_each_parameter(self):
        for value in ANY_VALUES:
            for function in FUNCTIONS:
                if tree_error(value) is not None:
                    self.assertEqual(raised(function, value, 3, 0), tree_error(value), value)
                if registers_error(value) is not None:
                    self.assertEqual(raised(function, [1, 2], value, 0), registers_error(value), value)
                self.assertEqual(raised(function, [1, 2], 3, value), top_error(value, 3), value)

    def test_the_first_wrong_parameter_counts(self):
        trees = ([], [1, 2], [2], [1, 3, 9], [1, True], None, (1, 2), [1] * 401)
        numbers = (0, 1, 2, 8, MOST_REGISTERS, 10 ** 30, -1, True, None, "1")
        for tree, registers, top in product(trees, numbers, numbers):
            ahead = first_error([tree_error(tree), registers_error(registers)])
            wanted = ahead or top_error(top, registers)
            for function in FUNCTIONS:
                self.assertEqual(raised(function, tree, registers, top), wanted)

    def test_edges(self):
        for function in FUNCTIONS:
            self.assertEqual(raised(function, [1, 3], 0, -1), (InvalidTree, 1))
            self.assertEqual(raised(function, [1, 2], 0, -1), (InvalidRegisters,))
            self.assertEqual(raised(function, [1, 2], 4, 5), (InvalidTop,))
            self.assertEqual(raised(function, [1, 2], 10 ** 30, 0), (InvalidRegisters,))


class ConventionsTest(unittest.TestCase):

    def test_by_name(self):
        self.assertEqual(trap_range(top=1, registers=1, tree=[1, 2]), (2, 2))
        self.assertEqual(best_order(top=1, registers=1, tree=[1, 2]), [1, 2])
        self.assertEqual(worst_order(top=1, registers=1, tree=[1, 2]), [1, 2])

    def test_returned_lists_are_new_and_equal_each_time(self):
        for function in (best_order, worst_order):
            tree = [1, 2]
            self.assertIsNot(function(tree, 1, 0), tree)
            first = function(CALLS, 3, 0)
            kept = list(first)
            first.append("more")
            self.assertEqual(function(CALLS, 3, 0), kept)

    def test_arguments_stay_as_they_are(self):
        for tree in ([1, 2, 3, 2, 1], [1, 3], [[1], 0], []):
            kept = [item.copy() if isinstance(item, list) else item for item in tree]
            for function in FUNCTIONS:
                raised(function, tree, 2, 1)
            self.assertEqual(tree, kept)


if __name__ == "__main__":
    unittest.main()
