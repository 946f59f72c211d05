"""Point [24], with points [2], [3], [9] and [11]: trees and their orders."""

import unittest
from itertools import product
from math import factorial

from lazyspill.errors import InvalidRegisters, InvalidTrace, InvalidTree, NotClosed, TooLong
from lazyspill.plans import counts_of, lazy_plan
from lazyspill.rows import row_of
from lazyspill.trees import (
    count_orders, frames_written, is_tree, least_order, same_calls, trace_of_tree, tree_of_trace,
)
from tests.samples import (
    ANY_VALUES, HILL, MOST_REGISTERS, calls_by_definition, closed_traces, depth_at, first_error, long_traces,
    long_trees, orders_by_definition, raised, registers_error, returns_new_list, trace_error, traces_up_to,
    tree_error, trees_up_to, trees_with,
)

CHAIN = list(range(1, 401))
ONE_TREE = (trace_of_tree, count_orders, least_order)


def tree_by_definition(trace):
    return [level for push, pop, level, height in calls_by_definition(trace, 0)]


def closed_trace_error(trace):
    error = trace_error(trace)
    if error is None and depth_at(trace, len(trace)) > 0:
        return (NotClosed,)
    if error is None and trace.count("+") > 400:
        return (TooLong, 400)
    return error


def heights_by_definition(tree):
    """Return how many levels the calls in each call make, with its own."""
    found = []
    for index, level in enumerate(tree):
        within = [level]
        for other in tree[index + 1:]:
            if other <= level:
                break
            within.append(other)
        found.append(max(within) - level + 1)
    return found


def frames_by_definition(tree, registers):
    heights = heights_by_definition(tree)
    frames = [0] * len(tree)
    for index, level in enumerate(tree):
        if level > 1 and heights[index] >= registers:
            around = max(other for other in range(index) if tree[other] == level - 1)
            frames[around] += 1
    return frames


class ExamplesTest(unittest.TestCase):

    def test_examples(self):
        self.assertEqual(tree_of_trace(HILL), [1, 2, 3, 4, 5, 2, 3, 4, 5])
        self.assertEqual(trace_of_tree([1, 2, 2, 1]), "++-+--+-")
        self.assertEqual(count_orders([1, 2, 3, 2, 1]), 4)
        self.assertEqual(least_order([1, 2, 3, 2, 1]), [1, 1, 2, 2, 3])
        self.assertEqual(frames_written(tree_of_trace(HILL), 4), [2, 0, 0, 0, 0, 0, 0, 0, 0])
        self.assertEqual([same_calls([1, 2, 1], [1, 1, 2]), same_calls([1, 2, 2], [1, 2, 3])], [True, False])


class IsTreeTest(unittest.TestCase):

    def test_short_lists(self):
        for length in range(6):
            for items in product((-1, 0, 1, 2, 3, True, None), repeat=length):
                value = list(items)
                self.assertIs(is_tree(value), tree_error(value) is None, value)

    def test_the_greatest_length(self):
        self.assertEqual([is_tree(CHAIN), is_tree([1] * 400), is_tree([1] * 401)], [True, True, False])
        self.assertEqual([is_tree([*CHAIN, 1]), is_tree([*CHAIN[1:], 1]), is_tree([*CHAIN[:399], 401])], [False] * 3)
        for function in ONE_TREE:
            self.assertEqual(raised(function, [1] * 401), (InvalidTree, None))
            self.assertEqual(raised(function, [0] * 401), (InvalidTree, None))
            self.assertEqual(raised(function, [*CHAIN[:399], 401]), (InvalidTree, 399))

    def test_any_value(self):
        for value in ANY_VALUES:
            self.assertIs(is_tree(value), tree_error(value) is None, value)


class TracesTest(unittest.TestCase):

    def test_all_small_trees(self):
        for calls in range(8):
            traces = closed_traces(calls)
            trees = trees_with(calls)
            self.assertEqual(len(trees), len(traces))
            for trace in traces:
                tree = tree_of_trace(trace)
                self.assertEqual(tree, tree_by_definition(trace))
                self.assertIn(tree, trees)
                self.assertEqual(trace_of_tree(tree), trace)

    def test_great_trees(self):
        for tree in [*long_trees(5), CHAIN, [1] * 400]:
            trace = trace_of_tree(tree)
            self.assertIsNone(closed_trace_error(trace))
            self.assertEqual(tree_by_definition(trace), tree)
            self.assertEqual(tree_of_trace(trace), tree)

    def test_traces_that_are_not_closed_or_too_long(self):
        for trace in (
            "+", "++-", "+" * 401, "+-" * 401 + "+", "+-" * 401, "+-" * 400, "+" * 401 + "-" * 401, "+" * 500 + "-" * 500,
            "+" * 400 + "-" * 400, "+-" * 500, "+-" * 450 + "x", "+-" * 499 + "--", "+-" * 501, "+" * 1000,
        ):
            self.assertEqual(raised(tree_of_trace, trace), closed_trace_error(trace))
        self.assertEqual(raised(tree_of_trace, "+-" * 401), (TooLong, 400))
        self.assertEqual(raised(tree_of_trace, "+-" * 401 + "+"), (NotClosed,))
        for trace in [*traces_up_to(6), *long_traces(3)]:
            self.assertEqual(raised(tree_of_trace, trace), closed_trace_error(trace))

    def test_the_empty_tree(self):
        self.assertEqual([tree_of_trace(""), trace_of_tree([])], [[], ""])


class OrdersTest(unittest.TestCase):

    def test_all_small_trees(self):
        for calls in range(8):
            ahead = {}
            for tree in trees_with(calls):
                orders = orders_by_definition(tree)
                self.assertIn(tuple(tree), orders)
                self.assertEqual(count_orders(tree), len(orders), tree)
                least = least_order(tree)
                self.assertEqual(least, list(min(orders)), tree)
                ahead.setdefault(tuple(least), set()).update(orders)
            # Trees with the same least order are all the orders of one another.
            self.assertEqual(sum(map(len, ahead.values())), len(trees_with(calls)))

    def test_same_calls(self):
        trees = trees_up_to(5)
        orders = {tuple(tree): orders_by_definition(tree) for tree in trees}
        for one, other in product(trees, trees):
            self.assertIs(same_calls(one, other), tuple(one) in orders[tuple(other)])

    def test_orders_have_the_same_words(self):
        for tree in trees_with(5):
            rows = {tuple(row_of(trace_of_tree(list(order)), 1)) for order in orders_by_definition(tree)}
            self.assertEqual(len(rows), 1)

    def test_great_trees(self):
        chains = [list(range(1, length + 1)) for length in range(27, 0, -1)]
        tree = sum(chains, [])
        self.assertEqual(len(tree), 378)
        self.assertEqual(count_orders(tree), factorial(27))
        self.assertEqual(least_order(tree), sum(sorted(chains), []))
        self.assertEqual(count_orders([1, *[level + 1 for level in tree]]), factorial(27))
        self.assertEqual([count_orders(CHAIN), count_orders([1] * 400)], [1, 1])
        self.assertEqual([least_order(CHAIN), least_order([1] * 400)], [CHAIN, [1] * 400])
        self.assertEqual(count_orders([1, 2] * 200), 1)
        self.assertEqual(count_orders([1, 2] * 100 + [1] * 200), factorial(300) // factorial(200) // factorial(100))
        self.assertEqual(least_order([1, 2] * 100 + [1] * 200), [1] * 200 + [1, 2] * 100)
        self.assertEqual(count_orders([1, 2, 2, 3] * 100), 2 ** 100)
        for tree in long_trees(3):
            least = least_order(tree)
            self.assertLessEqual(least, tree)
            self.assertEqual([least_order(least), count_orders(least)], [least, count_orders(tree)])
            self.assertIs(same_calls(tree, least), True)
            self.assertIs(same_calls(tree, [*least[:-1], 1 if least[-1] > 1 else 2]), False)

    def test_edges(self):
        self.assertEqual([count_orders([]), least_order([]), same_calls([], [])], [1, [], True])
        self.assertEqual([same_calls([], [1]), same_calls([1], [1]), same_calls([1], [1, 1])], [False, True, False])
        # A shorter call comes ahead of a longer one that begins alike.
        self.assertEqual(least_order([1, 2, 3, 1, 2, 2, 1, 2]), [1, 2, 1, 2, 2, 1, 2, 3])


class FramesTest(unittest.TestCase):

    def test_all_small_trees(self):
        for tree in trees_up_to(7):
            for registers in (1, 2, 3, 4, 9):
                self.assertEqual(frames_written(tree, registers), frames_by_definition(tree, registers), tree)

    def test_frames_are_the_words_of_the_lazy_plan(self):
        for tree in trees_with(6):
            trace = trace_of_tree(tree)
            for registers in (1, 2, 3, 4):
                written = counts_of(trace, registers, 1, lazy_plan(trace, registers, 1))[0]
                self.assertEqual(sum(frames_written(tree, registers)), written)

    def test_great_trees(self):
        for tree in [*long_trees(3), CHAIN, [1] * 400]:
            for registers in (1, 2, 5, 399, 400, MOST_REGISTERS):
                self.assertEqual(frames_written(tree, registers), frames_by_definition(tree, registers))

    def test_edges(self):
        self.assertEqual([frames_written([], 1), frames_written([1, 1], 1)], [[], [0, 0]])
        self.assertEqual([frames_written(CHAIN, 399), frames_written(CHAIN, 400)], [[1] + [0] * 399, [0] * 400])
        self.assertEqual(frames_written(CHAIN, 1), [1] * 399 + [0])


class ErrorsTest(unittest.TestCase):

    def test_any_values_for_each_parameter(self):
        for value in ANY_VALUES:
            wanted = tree_error(value)
            for function in ONE_TREE:
                self.assertEqual(raised(function, value), wanted, value)
            self.assertEqual(raised(same_calls, value, [1]), wanted)
            self.assertEqual(raised(same_calls, [1], value), wanted)
            self.assertEqual(raised(frames_written, value, 1), wanted)
            self.assertEqual(raised(frames_written, [1], value), registers_error(value))
            self.assertEqual(raised(tree_of_trace, value), closed_trace_error(value))

    def test_the_first_wrong_parameter_counts(self):
        trees = ([], [1, 2], [2], [1, 3, 9], [1, True], None, (1, 2), [1] * 401)
        for one, other in product(trees, trees):
            self.assertEqual(raised(same_calls, one, other), first_error([tree_error(one), tree_error(other)]))
        for tree, registers in product(trees, (0, 1, MOST_REGISTERS, 10 ** 30, True, None, "1")):
            wanted = first_error([tree_error(tree), registers_error(registers)])
            self.assertEqual(raised(frames_written, tree, registers), wanted)

    def test_index_of_a_wrong_tree(self):
        wrong = (
            ([0], 0), ([2], 0), ([1, 3], 1), ([1, 2, 4, 9], 2), ([1, 1, 0], 2), ([1, 2, -1], 2), ([1, 2, None], 2),
            ([1, True, 9], 1), (["1"], 0), ([10 ** 30], 0), ([1, [2]], 1), ((1,), None), ("1", None), ({}, None),
        )
        for tree, index in wrong:
            for function in ONE_TREE:
                self.assertEqual(raised(function, tree), (InvalidTree, index))
            self.assertEqual(raised(same_calls, tree, tree), (InvalidTree, index))
            self.assertEqual(raised(frames_written, tree, 0), (InvalidTree, index))
        self.assertEqual(raised(frames_written, [1], 0), (InvalidRegisters,))
        self.assertEqual(raised(tree_of_trace, "+--"), (InvalidTrace, 2))


class ConventionsTest(unittest.TestCase):

    def test_by_name(self):
        self.assertIs(is_tree(value=[1]), True)
        self.assertEqual(trace_of_tree(tree=[1, 2]), "++--")
        self.assertEqual(tree_of_trace(trace="++--"), [1, 2])
        self.assertEqual(count_orders(tree=[1, 2, 1]), 2)
        self.assertEqual(least_order(tree=[1, 2, 1]), [1, 1, 2])
        self.assertIs(same_calls(other_tree=[1], one_tree=[1, 2]), False)
        self.assertEqual(frames_written(registers=1, tree=[1, 2]), [1, 0])

    def test_returned_lists_are_new(self):
        tree = [1, 2, 1]
        for function, args in ((tree_of_trace, ("++--",)), (least_order, (tree,)), (frames_written, (tree, 1))):
            self.assertTrue(returns_new_list(function, *args))
        least = [1, 1, 2]
        self.assertIsNot(least_order(least), least)

    def test_arguments_stay_as_they_are(self):
        for tree in ([1, 2, 3, 2, 1], [1, 3], [[1], 0], []):
            kept = [item.copy() if isinstance(item, list) else item for item in tree]
            is_tree(tree)
            for function, more in (
                (trace_of_tree, []), (count_orders, []), (least_order, []), (same_calls, [tree]), (frames_written, [1]),
            ):
                raised(function, tree, *more)
            self.assertEqual(tree, kept)


if __name__ == "__main__":
    unittest.main()
