"""Point [19], with points [2], [3], [5], [6] and [9]: traces, depths, levels and calls."""

import unittest
from itertools import product

from lazyspill.errors import InvalidTop, InvalidTrace, NotClosed
from lazyspill.traces import calls_of, depths_of, is_trace, levels_of, open_heights, turned
from tests.samples import (
    ANY_VALUES, HILL, SLOPE, calls_by_definition, depth_at, first_error, levels_by_definition, long_traces,
    raised, returns_new_list, top_error, trace_error, traces_up_to,
)

TOPPED = (levels_of, calls_of, open_heights)


class ExamplesTest(unittest.TestCase):

    def test_examples(self):
        self.assertEqual(depths_of("++-"), [0, 1, 2, 1])
        self.assertEqual(levels_of("++-", 1), [0, 0, 1, 0])
        self.assertIs(is_trace("+--"), False)
        self.assertEqual(turned("+++--+--"), "++-++---")
        self.assertEqual(calls_of("++-+", 0), [(0, None, 1, 2), (1, 2, 2, 1), (3, None, 2, 1)])
        self.assertEqual(calls_of("++-+", 1), [(1, 2, 1, 1), (3, None, 1, 1)])
        self.assertEqual(open_heights(SLOPE, 0), [5, 4])


class IsTraceTest(unittest.TestCase):

    def test_short_strings(self):
        for length in range(7):
            for signs in product("+-x", repeat=length):
                text = "".join(signs)
                self.assertIs(is_trace(text), trace_error(text) is None, text)

    def test_the_greatest_length(self):
        for text in ("+" * 1000, "+-" * 500, "+" * 500 + "-" * 500):
            self.assertIs(is_trace(text), True)
            self.assertIs(is_trace(text + "+"), False)
            self.assertIs(is_trace(text[1:]), text[1] == "+" and text[-1] == "+")

    def test_wrong_characters(self):
        for sign in " 0123_*/=~,.ox":
            for text in (sign, "+" + sign, sign + "+", "++-" + sign):
                self.assertIs(is_trace(text), False, text)

    def test_any_value(self):
        for value in ANY_VALUES:
            self.assertIs(is_trace(value), trace_error(value) is None, value)


class DepthsAndLevelsTest(unittest.TestCase):

    def test_short_traces(self):
        for trace in traces_up_to(8):
            self.assertEqual(depths_of(trace), [depth_at(trace, moment) for moment in range(len(trace) + 1)])
            for top in (0, 1, 2, 5, 1000):
                self.assertEqual(levels_of(trace, top), levels_by_definition(trace, top))

    def test_long_traces(self):
        self.assertEqual(depths_of("+" * 1000), list(range(1001)))
        self.assertEqual(levels_of("+" * 1000, 999), [0] * 1000 + [1])
        self.assertEqual(levels_of("+" * 1000, 1000), [0] * 1001)
        for trace in long_traces(4):
            for top in (0, 1, 17, 1000):
                self.assertEqual(levels_of(trace, top), levels_by_definition(trace, top))

    def test_the_empty_trace(self):
        self.assertEqual([depths_of(""), levels_of("", 0), levels_of("", 1000)], [[0], [0], [0]])


class CallsTest(unittest.TestCase):

    def test_short_traces(self):
        for trace in traces_up_to(9):
            for top in range(4):
                calls = calls_of(trace, top)
                self.assertEqual(calls, calls_by_definition(trace, top), (trace, top))
                self.assertTrue(all(type(call) is tuple for call in calls))

    def test_long_traces(self):
        for trace in long_traces(4):
            for top in (0, 1, 17, 1000):
                calls = calls_by_definition(trace, top)
                self.assertEqual(calls_of(trace, top), calls)
                self.assertEqual(open_heights(trace, top), [call[3] for call in calls if call[1] is None])

    def test_deep_traces(self):
        self.assertEqual(calls_of("+" * 1000, 999), [(999, None, 1, 1)])
        self.assertEqual(calls_of("+" * 1000, 1000), [])
        self.assertEqual(open_heights("+" * 1000, 0), list(range(1000, 0, -1)))
        self.assertEqual(calls_of("+" * 500 + "-" * 500, 0), [(at, 999 - at, at + 1, 500 - at) for at in range(500)])

    def test_open_heights_of_short_traces(self):
        for trace in traces_up_to(9):
            for top in range(4):
                heights = [call[3] for call in calls_by_definition(trace, top) if call[1] is None]
                self.assertEqual(open_heights(trace, top), heights)
                self.assertEqual(heights, sorted(set(heights), reverse=True))

    def test_no_calls(self):
        for trace, top in (("", 0), ("", 5), ("+", 1), ("+-+-", 1), (HILL, 5)):
            self.assertEqual([calls_of(trace, top), open_heights(trace, top)], [[], []])

    def test_a_popped_call_still_counts_for_the_one_around_it(self):
        self.assertEqual(open_heights("+++--+", 0), [3, 1])
        self.assertEqual(open_heights("++--+", 0), [1])
        self.assertEqual(open_heights("+" + "++--" * 3, 1), [])


class TurnedTest(unittest.TestCase):

    def test_closed_traces(self):
        for trace in traces_up_to(10):
            if depth_at(trace, len(trace)) != 0:
                continue
            wanted = [{"+": "-", "-": "+"}[trace[-1 - step]] for step in range(len(trace))]
            self.assertEqual(turned(trace), "".join(wanted))
            self.assertEqual(turned(turned(trace)), trace)
            self.assertEqual(depths_of(turned(trace)), depths_of(trace)[::-1])

    def test_long_traces(self):
        self.assertEqual(turned("+" * 500 + "-" * 500), "+" * 500 + "-" * 500)
        self.assertEqual(turned("++--" + "+-" * 498), "+-" * 498 + "++--")

    def test_traces_that_are_not_closed(self):
        for trace in ("+", "++-", SLOPE, "+" * 1000):
            with self.assertRaises(NotClosed):
                turned(trace)

    def test_a_wrong_trace_comes_first(self):
        self.assertEqual(raised(turned, "++x"), (InvalidTrace, 2))
        self.assertEqual(raised(turned, "-"), (InvalidTrace, 0))
        self.assertEqual(raised(turned, "+" * 1001), (InvalidTrace, None))


class ErrorsTest(unittest.TestCase):

    def test_index_of_a_wrong_trace(self):
        wrong = {"x": 0, "-": 0, "+--": 2, "+-x-": 2, "+-?": 2, "++ -": 2, "+" * 999 + "x": 999, "+-" * 499 + "--": 998}
        for text, index in wrong.items():
            for function in (depths_of, turned):
                self.assertEqual(raised(function, text), (InvalidTrace, index))
            for function in TOPPED:
                self.assertEqual(raised(function, text, 0), (InvalidTrace, index))

    def test_a_value_that_is_no_string_or_is_too_long_has_no_index(self):
        for value in (None, True, 0, ["+"], ("+",), {"+": 0}, "+" * 1001, "x" * 1001, "-" + "+" * 1000):
            for function in (depths_of, turned):
                self.assertEqual(raised(function, value), (InvalidTrace, None))
            for function in TOPPED:
                self.assertEqual(raised(function, value, 0), (InvalidTrace, None))

    def test_any_values_for_both_parameters(self):
        for trace, top in product(ANY_VALUES, ANY_VALUES):
            wanted = first_error([trace_error(trace), top_error(top)])
            for function in TOPPED:
                self.assertEqual(raised(function, trace, top), wanted, (function, trace, top))

    def test_tops_at_the_edges(self):
        for function in TOPPED:
            for top in (-1, 1001, 10 ** 30, True, False, None, "0", [0]):
                self.assertEqual(raised(function, "+", top), (InvalidTop,))
            for top in (0, 1, 1000):
                self.assertIsNone(raised(function, "+", top))


class ConventionsTest(unittest.TestCase):

    def test_by_name(self):
        self.assertEqual(is_trace(value="+"), True)
        self.assertEqual(depths_of(trace="+"), [0, 1])
        self.assertEqual(levels_of(top=1, trace="++"), [0, 0, 1])
        self.assertEqual(calls_of(top=1, trace="++"), [(1, None, 1, 1)])
        self.assertEqual(open_heights(top=1, trace="++"), [1])
        self.assertEqual(turned(trace="+-"), "+-")

    def test_returned_lists_are_new(self):
        for function, args in (
            (depths_of, (HILL,)), (levels_of, (HILL, 1)), (calls_of, (HILL, 1)), (open_heights, (SLOPE, 0)),
        ):
            self.assertTrue(returns_new_list(function, *args))

    def test_arguments_stay_as_they_are(self):
        value = [1, ["+"], {"a": [0]}]
        self.assertIs(is_trace(value), False)
        self.assertEqual(raised(levels_of, value, value), (InvalidTrace, None))
        self.assertEqual(value, [1, ["+"], {"a": [0]}])


if __name__ == "__main__":
    unittest.main()
