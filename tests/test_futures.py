"""Points [29] and [30], with points [2], [3], [9] and [16]: futures, and traces that are alike."""

import unittest
from itertools import product

from lazyspill.errors import InvalidFuture, InvalidRegisters, InvalidTop, InvalidTrace
from lazyspill.futures import alike_with, are_alike, moved_behind, parting, parting_with, word_numbers
from tests.samples import (
    ANY_VALUES, HILL, MOST_REGISTERS, SLOPE, depth_at, first_error, lazy_by_definition, long_traces, raised,
    registers_error, returns_new_list, top_error, trace_error, traces_up_to,
)

MACHINES = ((1, 0), (1, 1), (2, 0), (2, 1), (2, 2), (3, 0), (3, 1), (3, 3), (4, 1), (5, 0))


def changes(plan):
    return [after - before for before, after in zip(plan, plan[1:])]


def state_behind(trace, registers, top):
    """Return the tuple (depth, words in memory) of the lazy plan."""
    return (depth_at(trace, len(trace)), lazy_by_definition(trace, registers, top)[-1])


def stepped(state, sign, registers, top):
    """Return the tuple (moved words, next state) of the lazy plan for a step, None if it is not possible."""
    depth, number = state
    depth += 1 if sign == "+" else -1
    if depth < 0:
        return None
    level = max(depth - top, 0)
    after = min(max(number, level - (registers - top), 0), level)
    return (after - number, (depth, after))


def shortest_futures(one, other, registers, top, most):
    """Return the shortest futures, of at most so many steps, in which something differs, by a search over all futures."""
    pairs = {(state_behind(one, registers, top), state_behind(other, registers, top)): [""]}
    for length in range(most):
        behind = {}
        found = []
        for (first, second), futures in pairs.items():
            for sign in "+-":
                ways = (stepped(first, sign, registers, top), stepped(second, sign, registers, top))
                if None in ways:
                    continue
                longer = [future + sign for future in futures]
                if ways[0][0] != ways[1][0]:
                    found += longer
                else:
                    behind.setdefault((ways[0][1], ways[1][1]), []).extend(longer[:2])
        if found:
            return found
        pairs = behind
    return []


def future_error(trace, value):
    if type(value) is not str or len(value) > 1000:
        return (InvalidFuture, None)
    for index, sign in enumerate(value):
        steps = trace + value[:index + 1]
        if sign not in "+-" or steps.count("-") > steps.count("+"):
            return (InvalidFuture, index)
    return None


class ExamplesTest(unittest.TestCase):

    def test_examples(self):
        self.assertEqual([word_numbers(SLOPE, 0), word_numbers(SLOPE, 1)], [[4, 3], [4, 0]])
        self.assertEqual(moved_behind(SLOPE, 3, 0, "--+"), [-1, -1, 0])
        self.assertEqual(
            [are_alike("+-+", "+", 0), alike_with("++", "+++", 1, 0), alike_with("++", "+++", 1, 1)],
            [True, True, False],
        )
        self.assertEqual([parting(SLOPE, "++", 0), parting("++", "+++", 1)], [("+", 1), ("+", 3)])
        self.assertEqual([parting_with(SLOPE, "++", 4, 0), parting_with("", "+", 2, 2)], ["--", "++"])


class WordNumbersTest(unittest.TestCase):

    def test_short_traces(self):
        for trace in traces_up_to(8):
            for top in range(5):
                wanted = [0] * depth_at(trace, len(trace))
                for registers in range(max(top, 1), 12):
                    number = lazy_by_definition(trace, registers, top)[-1]
                    wanted[:number] = [registers] * number
                self.assertEqual(word_numbers(trace, top), wanted, (trace, top))

    def test_long_traces(self):
        for trace in long_traces(3):
            for top in (0, 1, 20, 1000):
                numbers = word_numbers(trace, top)
                self.assertEqual(len(numbers), depth_at(trace, 1000))
                for registers in {max(top, 1), top + 3, top + 40, 1000}:
                    memory = lazy_by_definition(trace, registers, top)[-1]
                    self.assertEqual([number >= registers for number in numbers].count(True), memory)

    def test_edges(self):
        self.assertEqual([word_numbers("", 0), word_numbers("+", 0), word_numbers("+", 1), word_numbers("++", 5)],
                         [[], [0], [0], [0, 0]])
        self.assertEqual(word_numbers("+" * 1000, 0), list(range(999, -1, -1)))
        self.assertEqual(word_numbers("+" * 1000, 1000), [0] * 1000)
        self.assertEqual(word_numbers("+" * 1000, 999), [999] + [0] * 999)


class MovedBehindTest(unittest.TestCase):

    def test_short_traces_and_futures(self):
        futures = ["".join(signs) for length in range(6) for signs in product("+-", repeat=length)]
        for trace in traces_up_to(5):
            for registers, top in MACHINES:
                for future in futures:
                    wanted = future_error(trace, future)
                    if wanted is not None:
                        self.assertEqual(raised(moved_behind, trace, registers, top, future), wanted)
                        continue
                    moved = changes(lazy_by_definition(trace + future, registers, top))[len(trace):]
                    self.assertEqual(moved_behind(trace, registers, top, future), moved, (trace, registers, top, future))

    def test_the_greatest_lengths(self):
        trace = "+" * 1000
        for future in ("+" * 1000, "-" * 1000, "+-" * 500):
            for registers, top in ((1, 0), (7, 3), (2000, 0), (1500, 1200), (MOST_REGISTERS, 0)):
                wanted = changes(lazy_by_definition(trace + future, registers, top))[1000:]
                self.assertEqual(moved_behind(trace, registers, top, future), wanted)

    def test_wrong_futures(self):
        for future, index in (
            ("---", 2), ("+----", 4), ("--x", 2), ("x--", 0), ("-?", 1), (" ", 0), ("+ -", 1), ("-" * 1000, 2),
            ("+" * 1001, None), ("-" * 1001, None), (None, None), (0, None), (["+"], None), (("-",), None),
        ):
            self.assertEqual(raised(moved_behind, "+++-", 3, 0, future), (InvalidFuture, index), future)
        self.assertEqual(raised(moved_behind, "", 3, 0, "-"), (InvalidFuture, 0))
        self.assertEqual([moved_behind("", 3, 0, ""), moved_behind("++", 1, 0, "--")], [[], [0, -1]])

    def test_any_values(self):
        for value in ANY_VALUES:
            for trace in ("", "++-", HILL, "+" * 1000):
                self.assertEqual(raised(moved_behind, trace, 3, 1, value), future_error(trace, value), value)


class AlikeTest(unittest.TestCase):

    def test_all_pairs_of_short_traces(self):
        traces = traces_up_to(5)
        for one, other in product(traces, traces):
            for registers, top in MACHINES:
                found = shortest_futures(one, other, registers, top, registers + 7)
                self.assertIs(alike_with(one, other, registers, top), not found, (one, other, registers, top))
                future = parting_with(one, other, registers, top)
                if not found:
                    self.assertIsNone(future)
                    continue
                # The shortest ones are pushes alone or pops alone; pushes if there are both.
                self.assertIn(future, found)
                self.assertIn(future, ("+" * len(future), "-" * len(future)))
                self.assertTrue(future[0] == "+" or "+" * len(future) not in found)

    def test_parting_for_any_number_of_registers(self):
        traces = traces_up_to(5)
        for one, other in product(traces, traces):
            for top in range(4):
                best = None
                for registers in range(max(top, 1), 9):
                    for future in shortest_futures(one, other, registers, top, registers + 7):
                        if len(set(future)) == 1:
                            place = (len(future), future, registers)
                            best = place if best is None else min(best, place)
                self.assertEqual(parting(one, other, top), best and best[1:], (one, other, top))
                self.assertIs(are_alike(one, other, top), best is None)

    def test_longer_traces(self):
        traces = [HILL, SLOPE, "+" * 20 + "-" * 10, "+" * 10, "+" * 30 + "-" * 15 + "+" * 5, *long_traces(4, 60)]
        for one, other in product(traces, traces):
            for top in (0, 1, 5):
                best = None
                for registers in range(max(top, 1), 64):
                    states = [state_behind(trace, registers, top) for trace in (one, other)]
                    length = 0
                    # Pushes alone, or pops alone, until something differs.
                    for sign in "+-":
                        pair = states
                        for length in range(1, 65):
                            ways = [stepped(state, sign, registers, top) for state in pair]
                            if None in ways:
                                break
                            if ways[0][0] != ways[1][0]:
                                place = (length, sign * length, registers)
                                best = place if best is None else min(best, place)
                                break
                            pair = [way[1] for way in ways]
                self.assertEqual(parting(one, other, top), best and best[1:])

    def test_the_greatest_sizes(self):
        high = "+" * 1000
        self.assertEqual(parting_with("", "+", 1000, 1000), "+" * 1000)
        self.assertEqual(parting_with(high, high[1:], 1000, 0), "+")
        self.assertEqual(parting_with("", "+", 1000, 0), "+" * 1000)
        self.assertEqual(parting_with("+" * 998, "+" * 500 + "-" * 250, 500, 0), "+")
        self.assertEqual(parting("", "+", 1000), ("+" * 1000, 1000))
        # With 999 registers they differ only in a pop.
        self.assertEqual(parting(high, "+" * 999, 999), ("+", 1000))
        self.assertIsNone(parting(high, high, 0))
        self.assertIs(alike_with(high, "+" * 999, MOST_REGISTERS, 0), False)
        self.assertIs(alike_with(high, "+" * 999, 999, 0), True)
        self.assertIs(alike_with(high, "+" * 999, MOST_REGISTERS, MOST_REGISTERS), False)
        self.assertIs(are_alike("+-" * 499 + "+", "+", 0), True)

    def test_edges(self):
        self.assertIsNone(parting_with("", "", 1, 0))
        # No future that is possible for both pops, and both have no word in registers.
        self.assertIsNone(parting_with("", "++-", 1, 0))
        self.assertIs(alike_with("", "++-", 1, 0), True)
        self.assertEqual(parting_with("", "++-", 1, 1), "+")
        self.assertEqual(parting("", "++-", 0), ("++", 2))
        self.assertEqual(parting("+", "++-", 0), ("+", 1))


class ErrorsTest(unittest.TestCase):

    def test_any_values_for_each_parameter(self):
        for value in ANY_VALUES:
            wrong = trace_error(value)
            self.assertEqual(raised(word_numbers, value, 0), wrong, value)
            self.assertEqual(raised(word_numbers, "+", value), top_error(value), value)
            if wrong is not None:
                self.assertEqual(raised(moved_behind, value, 3, 0, ""), wrong, value)
            self.assertEqual(raised(moved_behind, "++-", value, 0, ""), registers_error(value), value)
            self.assertEqual(raised(moved_behind, "++-", 3, value, ""), top_error(value, 3), value)
            for function in (are_alike, parting):
                self.assertEqual(raised(function, value, "++-", 0), wrong, value)
                self.assertEqual(raised(function, "++-", value, 0), wrong, value)
                self.assertEqual(raised(function, "++-", "+", value), top_error(value), value)
            for function in (alike_with, parting_with):
                self.assertEqual(raised(function, value, "++-", 3, 0), wrong, value)
                self.assertEqual(raised(function, "++-", value, 3, 0), wrong, value)
                self.assertEqual(raised(function, "++-", "++-", value, 0), registers_error(value), value)
                self.assertEqual(raised(function, "++-", "+", 3, value), top_error(value, 3), value)

    def test_the_first_wrong_parameter_counts(self):
        traces = ("+", "+--", "x", None)
        numbers = (0, 1, 2, 1001, 10 ** 30, -1, True, None)
        for one, other, top in product(traces, traces, numbers):
            wanted = first_error([trace_error(one), trace_error(other), top_error(top)])
            for function in (are_alike, parting):
                self.assertEqual(raised(function, one, other, top), wanted)
            for registers in numbers[:2] + numbers[4:]:
                ahead = first_error([trace_error(one), trace_error(other), registers_error(registers)])
                wanted = ahead or top_error(top, registers)
                for function in (alike_with, parting_with):
                    self.assertEqual(raised(function, one, other, registers, top), wanted)
                wanted = trace_error(one) or registers_error(registers) or top_error(top, registers)
                wanted = wanted or future_error(one, other)
                self.assertEqual(raised(moved_behind, one, registers, top, other), wanted)

    def test_numbers_at_the_edges(self):
        self.assertEqual(raised(are_alike, "+", "+--", -1), (InvalidTrace, 2))
        self.assertEqual(raised(are_alike, "+", "+-", 1001), (InvalidTop,))
        self.assertIsNone(raised(are_alike, "+", "+-", 1000))
        self.assertEqual(raised(alike_with, "+", "+-", 0, 0), (InvalidRegisters,))
        self.assertEqual(raised(alike_with, "+", "+-", 4, 5), (InvalidTop,))
        self.assertEqual(raised(moved_behind, "+", 4, 5, "--"), (InvalidTop,))


class ConventionsTest(unittest.TestCase):

    def test_by_name(self):
        self.assertEqual(word_numbers(top=1, trace="+++"), [2, 1, 0])
        self.assertEqual(moved_behind(future="+-", top=1, registers=1, trace="+"), [1, -1])
        self.assertIs(are_alike(top=0, other="+", one="+-+"), True)
        self.assertIs(alike_with(top=1, registers=1, other="+++", one="++"), False)
        self.assertEqual(parting_with(top=0, registers=4, other="++", one=SLOPE), "--")
        self.assertEqual(parting(top=1, other="+++", one="++"), ("+", 3))

    def test_returned_lists_are_new(self):
        self.assertTrue(returns_new_list(word_numbers, SLOPE, 0))
        self.assertTrue(returns_new_list(moved_behind, SLOPE, 3, 0, "--+"))


if __name__ == "__main__":
    unittest.main()
