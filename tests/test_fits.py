"""Points [31] and [32], with points [2], [3] and [10]: numbers of registers that fit observed words."""

import random
import unittest
from itertools import product

from lazyspill.errors import InvalidChoices, InvalidCounts, InvalidNumber, InvalidTop, TooLong
from lazyspill.fits import machines_for, registers_for, telling_trace
from tests.samples import (
    ANY_VALUES, HILL, MOST_REGISTERS, SLOPE, counts_by_definition, lazy_by_definition, long_traces, number_error,
    raised, returns_new_list, top_error, trace_error, traces_up_to,
)


def written_on(trace, registers, top):
    return counts_by_definition(lazy_by_definition(trace, registers, top))[0]


def registers_by_definition(counts, top):
    """Return what fits by trying all numbers of registers up to more than the greatest depth; also that all between fit."""
    behind = top + 3 + max(trace.count("+") for trace, _ in counts)
    fitting = [
        registers for registers in range(max(top, 1), behind)
        if all(written_on(trace, registers, top) == number for trace, number in counts)
    ]
    if not fitting:
        return None
    assert fitting == list(range(fitting[0], fitting[-1] + 1))
    return (fitting[0], None if fitting[-1] == behind - 1 else fitting[-1])


def machines_by_definition(counts, most):
    pairs = [(top, registers_by_definition(counts, top)) for top in range(most + 1)]
    return [(top, *pair) for top, pair in pairs if pair is not None]


def counts_error(value):
    if type(value) is not list or not 1 <= len(value) <= 50:
        return (InvalidCounts, None)
    for index, item in enumerate(value):
        right = type(item) is tuple and len(item) == 2 and trace_error(item[0]) is None
        if not right or type(item[1]) is not int or item[1] < 0:
            return (InvalidCounts, index)
    return None


def choices_error(top, value):
    if type(value) is not list or not 2 <= len(value) <= 20:
        return (InvalidChoices, None)
    for index, item in enumerate(value):
        if type(item) is not int or not max(top, 1) <= item <= MOST_REGISTERS or item <= max([0, *value[:index]]):
            return (InvalidChoices, index)
    return None


def telling_error(top, value):
    wanted = choices_error(top, value)
    if wanted is None and value[-2] >= 1000:
        return (TooLong, 1000)
    return wanted


class ExamplesTest(unittest.TestCase):

    def test_examples(self):
        self.assertEqual(
            [registers_for([(HILL, 3)], 0), registers_for([(HILL, 0)], 0), registers_for([(HILL, 2)], 0)],
            [(3, 3), (5, None), None],
        )
        self.assertEqual(registers_for([(HILL, 0), ("+" * 9, 2)], 0), (7, 7))
        self.assertEqual(machines_for([(HILL, 2)], 2), [(1, 4, 4), (2, 4, 4)])
        self.assertEqual(telling_trace(0, [2, 4, 9]), "+++++")


class FitsTest(unittest.TestCase):

    def test_one_short_trace(self):
        for trace in traces_up_to(8):
            for number in range(6):
                counts = [(trace, number)]
                for top in range(5):
                    self.assertEqual(registers_for(counts, top), registers_by_definition(counts, top), (counts, top))

    def test_all_tops_of_one_short_trace(self):
        for trace in traces_up_to(7):
            for number in range(5):
                counts = [(trace, number)]
                self.assertEqual(machines_for(counts, 5), machines_by_definition(counts, 5), counts)

    def test_several_traces(self):
        source = random.Random(5)
        short = [trace for trace in traces_up_to(9) if len(trace) > 5]
        for turn in range(400):
            registers, top = source.randint(1, 5), source.randint(0, 3)
            traces = source.sample(short, source.randint(2, 5))
            if registers >= top:
                counts = [(trace, written_on(trace, registers, top)) for trace in traces]
                if turn % 4 == 0:
                    counts[-1] = (counts[-1][0], counts[-1][1] + 1)
                self.assertEqual(registers_for(counts, top), registers_by_definition(counts, top))
                self.assertEqual(machines_for(counts, 6), machines_by_definition(counts, 6))

    def test_longer_traces(self):
        for trace in [HILL, SLOPE, "+" * 20, "+" * 9 + "-" * 5 + "+" * 9, *long_traces(4, 60)]:
            for number in (0, 1, 2, 3, 5, 8, 13, 21, 30, 60):
                counts = [(trace, number)]
                self.assertEqual(machines_for(counts, 12), machines_by_definition(counts, 12))
                for top in (0, 1, 4, 11, 70):
                    self.assertEqual(registers_for(counts, top), registers_by_definition(counts, top))

    def test_edges(self):
        self.assertEqual([registers_for([("", 0)], 0), registers_for([("", 0)], 1000)], [(1, None), (1000, None)])
        self.assertEqual([registers_for([("", 1)], 0), registers_for([("+", 1)], 0)], [None, None])
        # There is no machine without registers, though only that would write each word.
        self.assertIsNone(registers_for([("++", 2)], 0))
        self.assertEqual(registers_for([("++", 1)], 1), (1, 1))
        self.assertEqual(registers_for([("+" * 1000, 0)], 0), (1000, None))
        self.assertEqual(registers_for([("+" * 1000, 999)], 0), (1, 1))
        self.assertEqual(registers_for([("+" * 1000, 1)], 999), (999, 999))
        self.assertIsNone(registers_for([("+" * 1000, 1)], 1000))
        self.assertIsNone(registers_for([("++", 10 ** 40)], 0))
        self.assertEqual(machines_for([("", 0)], 0), [(0, 1, None)])
        self.assertEqual(machines_for([("", 1)], 100), [])
        self.assertEqual(machines_for([("+++", 2)], 100), [(0, 1, 1), (1, 1, 1)])
        self.assertEqual(machines_for([("+", 0)], 100), [(0, 1, None)] + [(top, top, None) for top in range(1, 101)])
        self.assertEqual(registers_for([("+++", 1)] * 50, 0), (2, 2))
        self.assertIsNone(registers_for([("+++", 1)] * 49 + [("+++", 2)], 0))

    def test_wrong_counts(self):
        for counts, index in (
            ([], None), ([("+", 0)] * 51, None), ((("+", 0),), None), (None, None), ("+", None), ({}, None),
            ([("+", 0), ("+--", 0)], 1), ([("+", -1)], 0), ([("+", True)], 0), ([["+", 0]], 0), ([("+", 0, 0)], 0),
            ([("+",)], 0), ([()], 0), ([("+", 0), None], 1), ([(0, "+")], 0), ([("+" * 1001, 0)], 0), ([("+", "0")], 0),
            ([("+", 0)] * 49 + [("-", 0)], 49), ([("+", 0), ("x", 0), ("-", 0)], 1), ([("+", None)], 0),
        ):
            self.assertEqual(raised(registers_for, counts, 0), (InvalidCounts, index), counts)
            self.assertEqual(raised(machines_for, counts, 0), (InvalidCounts, index), counts)
        for counts in ([("+", 0)] * 50, [("+" * 1000, 10 ** 30)], [("", 0)]):
            self.assertIsNone(raised(registers_for, counts, 0))
            self.assertIsNone(raised(machines_for, counts, 0))


class TellingTraceTest(unittest.TestCase):

    def test_no_trace_is_shorter(self):
        written = {}
        for trace in sorted(traces_up_to(7), key=len):
            for registers in range(1, 9):
                for top in range(min(registers, 3) + 1):
                    written[(trace, registers, top)] = written_on(trace, registers, top)
        traces = sorted(traces_up_to(7), key=len)
        for top in range(4):
            for picks in product((False, True), repeat=6):
                choices = [registers for registers, pick in zip(range(max(top, 1), max(top, 1) + 6), picks) if pick]
                if len(choices) < 2 or choices[-1] > 8 or choices[-2] > 6:
                    continue
                telling = [
                    trace for trace in traces
                    if len({written[(trace, registers, top)] for registers in choices}) == len(choices)
                ]
                trace = telling_trace(top, choices)
                self.assertIn(trace, telling, (top, choices))
                self.assertEqual(len(trace), len(telling[0]))

    def test_more_choices(self):
        for top, choices in (
            (0, list(range(1, 21))), (3, [3, 10 ** 29]), (0, [1, 500, 999, 1000]), (999, [999, 1000]),
            (100, list(range(100, 1000, 50))), (0, [1, MOST_REGISTERS]), (0, [998, 999, MOST_REGISTERS]),
        ):
            trace = telling_trace(top, choices)
            self.assertIsNone(trace_error(trace))
            self.assertEqual(len(trace), choices[-2] + 1)
            words = [written_on(trace, registers, top) for registers in choices]
            self.assertEqual(len(set(words)), len(choices))

    def test_wrong_choices(self):
        for top, choices, index in (
            (0, [], None), (0, [1], None), (0, list(range(1, 22)), None), (0, (1, 2), None), (0, None, None),
            (0, "12", None), (0, [0, 1], 0), (2, [1, 2], 0), (0, [1, 1], 1), (0, [1, 3, 2], 2), (0, [1, True], 1),
            (0, [True, 2], 0), (0, [1, "2"], 1), (0, [1, None, 0], 1), (0, [1, 10 ** 30], 1), (0, [-1, 2], 0),
            (0, [[1], 2], 0), (1000, [999, 1001], 0), (0, [10 ** 30, 5], 0), (0, [2, 3, 3, 3], 2), (0, {}, None),
        ):
            self.assertEqual(raised(telling_trace, top, choices), (InvalidChoices, index), choices)

    def test_too_long(self):
        for top, choices in (
            (0, [1000, 1001]), (1000, [1000, 1001]), (0, [1, 1000, 1001]), (0, [10 ** 29, 10 ** 29 + 1]),
            (0, [MOST_REGISTERS - 1, MOST_REGISTERS]),
        ):
            self.assertEqual(raised(telling_trace, top, choices), (TooLong, 1000))
        self.assertEqual(telling_trace(999, [999, 1000]), "+" * 1000)
        self.assertEqual(raised(telling_trace, 0, [1000, 1001, 1001]), (InvalidChoices, 2))


class ErrorsTest(unittest.TestCase):

    def test_any_values_for_each_parameter(self):
        for value in ANY_VALUES:
            self.assertEqual(raised(registers_for, value, 0), counts_error(value), value)
            self.assertEqual(raised(machines_for, value, 0), counts_error(value), value)
            self.assertEqual(raised(registers_for, [(HILL, 3)], value), top_error(value), value)
            self.assertEqual(raised(machines_for, [(HILL, 3)], value), number_error(value, 0, 100), value)
            wanted = top_error(value)
            if wanted is None:
                wanted = telling_error(value, [3, 4])
            self.assertEqual(raised(telling_trace, value, [3, 4]), wanted, value)
            for top in (0, 2, 1000):
                self.assertEqual(raised(telling_trace, top, value), telling_error(top, value), value)

    def test_errors_of_the_table_come_first(self):
        # The document lists InvalidCounts for the point, so it comes behind the errors of the table.
        for counts in (None, [], [("+--", 0)], [("+", 0)]):
            for top in (-1, 1001, None, True):
                self.assertEqual(raised(registers_for, counts, top), (InvalidTop,))
            for most in (-1, 101, None, True, 10 ** 30):
                self.assertEqual(raised(machines_for, counts, most), (InvalidNumber,))
        for choices in (None, [], [1], [5, 1], [2, 3], [1000, 1001]):
            for top in (-1, 1001, None, True):
                self.assertEqual(raised(telling_trace, top, choices), (InvalidTop,))
        self.assertIsNone(raised(machines_for, [("+", 0)], 100))


class ConventionsTest(unittest.TestCase):

    def test_by_name(self):
        self.assertEqual(registers_for(top=0, counts=[(HILL, 3)]), (3, 3))
        self.assertEqual(machines_for(most=1, counts=[(HILL, 2)]), [(1, 4, 4)])
        self.assertEqual(telling_trace(choices=[2, 4], top=1), "+++")

    def test_returned_lists_are_new(self):
        self.assertTrue(returns_new_list(machines_for, [("+", 0)], 3))

    def test_arguments_stay_as_they_are(self):
        for counts in ([(HILL, 3), ("+", 0)], [("+--", 1)], []):
            kept = list(counts)
            raised(registers_for, counts, 0)
            raised(machines_for, counts, 5)
            self.assertEqual(counts, kept)
        for choices in ([1, 2, 3], [3, 2], []):
            kept = list(choices)
            raised(telling_trace, 0, choices)
            self.assertEqual(choices, kept)


if __name__ == "__main__":
    unittest.main()
