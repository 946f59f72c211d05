"""Point [33], with points [2], [3], [12] and [17]: repeated traces."""

import unittest
from itertools import product

from lazyspill.errors import InvalidNumber, InvalidRegisters, InvalidTop, InvalidTrace
from lazyspill.rounds import traps_in_rounds, words_in_rounds
from tests.samples import (
    ANY_VALUES, HILL, MOST_REGISTERS, SLOPE, blocks_by_definition, counts_by_definition, first_error,
    lazy_by_definition, levels_by_definition, long_traces, number_error, raised, registers_error, top_error,
    trace_error, traces_up_to,
)

MOST_TIMES = 10 ** 30 - 1


def words_by_definition(trace, times, registers, top):
    return counts_by_definition(lazy_by_definition(trace * times, registers, top))[:2]


def traps_by_definition(trace, times, registers, top):
    return len(blocks_by_definition(levels_by_definition(trace * times, top), registers - top)) - 1


def quick_words(trace, times, registers, top):
    """Return the words for a long trace that is written out, step by step."""
    depth = number = written = 0
    for sign in trace * times:
        depth += 1 if sign == "+" else -1
        after = min(max(number, depth - registers), max(depth - top, 0))
        written += max(after - number, 0)
        number = after
    return (written, written - number)


def quick_traps(trace, times, registers, top):
    """Return the fewest traps for a long trace that is written out, step by step."""
    depth = traps = least = greatest = 0
    for sign in trace * times:
        depth += 1 if sign == "+" else -1
        level = max(depth - top, 0)
        least, greatest = min(least, level), max(greatest, level)
        if greatest - least > registers - top:
            least = greatest = level
            traps += 1
    return traps


class ExamplesTest(unittest.TestCase):

    def test_examples(self):
        self.assertEqual(words_in_rounds("++-", 3, 2, 0), (2, 0))
        self.assertEqual(words_in_rounds("++-", 10 ** 29, 2, 0), (10 ** 29 - 1, 0))
        self.assertEqual(words_in_rounds(HILL, 10 ** 29, 3, 0), (3 * 10 ** 29, 3 * 10 ** 29))
        self.assertEqual(traps_in_rounds("++-", 3, 2, 0), 1)
        self.assertEqual(traps_in_rounds("++-", 10 ** 29, 2, 0), 5 * 10 ** 28)
        self.assertEqual(traps_in_rounds(HILL, 2, 3, 0), 8)


class RoundsTest(unittest.TestCase):

    def test_short_traces(self):
        for trace in traces_up_to(5):
            for times in (1, 2, 3, 4, 7):
                for registers in range(1, 7):
                    for top in range(registers + 1):
                        args = (trace, times, registers, top)
                        self.assertEqual(words_in_rounds(*args), words_by_definition(*args), args)
                        self.assertEqual(traps_in_rounds(*args), traps_by_definition(*args), args)

    def test_more_rounds(self):
        for trace in [*traces_up_to(6), HILL, SLOPE, "+" * 7, "+++--+++--+-", "++++++------+"]:
            for registers, top in ((1, 0), (3, 1), (5, 0), (13, 10), (20, 20), (40, 30)):
                for times in (19, 50):
                    args = (trace, times, registers, top)
                    self.assertEqual(words_in_rounds(*args), quick_words(*args), args)
                    self.assertEqual(traps_in_rounds(*args), quick_traps(*args), args)

    def test_longer_traces(self):
        for trace in ["+" * 60 + "-" * 59, "+" * 40 + "+-" * 30 + "-" * 37, "+" * 97, *long_traces(5, 120)]:
            for registers, top in ((1, 0), (4, 3), (60, 0), (100, 60), (300, 250), (2000, 1990), (61, 1)):
                for times in (1, 2, 100):
                    args = (trace, times, registers, top)
                    self.assertEqual(words_in_rounds(*args), quick_words(*args), args)
                    self.assertEqual(traps_in_rounds(*args), quick_traps(*args), args)

    def test_far_more_rounds(self):
        # After so many rounds, each one from 1 to 10 among its divisors, blocks begin at the same steps again.
        span = 2520
        spans = 10 ** 26
        for trace, (registers, top), more in product(traces_up_to(4), ((1, 0), (2, 1), (4, 0), (7, 3)), (0, 11)):
            rounds = (span + more, 2 * span + more, (2 + spans) * span + more)
            near, behind, far = [words_in_rounds(trace, times, registers, top) for times in rounds]
            self.assertEqual([near, behind], [quick_words(trace, times, registers, top) for times in rounds[:2]])
            self.assertEqual(far, tuple(last + spans * (last - first) for first, last in zip(near, behind)))
            near, behind, far = [traps_in_rounds(trace, times, registers, top) for times in rounds]
            self.assertEqual([near, behind], [quick_traps(trace, times, registers, top) for times in rounds[:2]])
            self.assertEqual(far, behind + spans * (behind - near))

    def test_the_greatest_numbers(self):
        most = MOST_TIMES
        self.assertEqual(words_in_rounds("+", most, 1, 0), (most - 1, 0))
        self.assertEqual(words_in_rounds("+", most, MOST_REGISTERS, 0), (0, 0))
        self.assertEqual(words_in_rounds("+", most, MOST_REGISTERS - 1, 0), (1, 0))
        self.assertEqual(words_in_rounds("++", most, MOST_REGISTERS, MOST_REGISTERS), (most, 0))
        self.assertEqual(words_in_rounds("++-", most, MOST_REGISTERS, 0), (1, 0))
        self.assertEqual(words_in_rounds("+-", most, 1, 0), (0, 0))
        self.assertEqual(words_in_rounds("++--", most, 1, 0), (most, most))
        self.assertEqual(words_in_rounds("+" * 1000, most, 1000, 0), (1000 * most - 1000, 0))
        self.assertEqual(words_in_rounds("", most, 1, 0), (0, 0))
        self.assertEqual(traps_in_rounds("+", most, 60, 0), most // 61)
        self.assertEqual(traps_in_rounds("+", most, 1, 1), most - 1)
        self.assertEqual(traps_in_rounds("+", most, MOST_REGISTERS, MOST_REGISTERS - 60), 0)
        self.assertEqual(traps_in_rounds("++", most, MOST_REGISTERS, MOST_REGISTERS - 60), (most + 60) // 61)
        self.assertEqual(traps_in_rounds("+-", most, 1, 1), 0)
        self.assertEqual(traps_in_rounds("++--", most, 1, 0), 2 * most)
        self.assertEqual(traps_in_rounds("", most, 1, 0), 0)

    def test_one_round_is_the_trace(self):
        for trace in [HILL, "+" * 1000, *long_traces(3)]:
            for registers, top in ((1, 0), (9, 2), (60, 0), (1000, 960)):
                args = (trace, 1, registers, top)
                self.assertEqual(words_in_rounds(*args), quick_words(*args))
                self.assertEqual(traps_in_rounds(*args), quick_traps(*args))


class ErrorsTest(unittest.TestCase):

    def test_any_values_for_each_parameter(self):
        for value in ANY_VALUES:
            for function in (words_in_rounds, traps_in_rounds):
                self.assertEqual(raised(function, value, 2, 3, 0), trace_error(value), value)
                self.assertEqual(raised(function, "++-", value, 3, 0), number_error(value, 1, MOST_TIMES), value)
                if function == words_in_rounds or registers_error(value) is not None:
                    self.assertEqual(raised(function, "++-", 2, value, 0), registers_error(value), value)
                self.assertEqual(raised(function, "++-", 2, 3, value), top_error(value, 3), value)

    def test_the_first_wrong_parameter_counts(self):
        numbers = (0, 1, 2, 60, 10 ** 30, -1, True, None, "1")
        for trace, times, registers, top in product(("+", "+--", None), numbers, numbers, numbers):
            ahead = first_error([trace_error(trace), number_error(times, 1, MOST_TIMES), registers_error(registers)])
            wanted = ahead or top_error(top, registers)
            for function in (words_in_rounds, traps_in_rounds):
                self.assertEqual(raised(function, trace, times, registers, top), wanted)

    def test_numbers_at_the_edges(self):
        for function in (words_in_rounds, traps_in_rounds):
            self.assertEqual(raised(function, "+--", 0, 0, 1), (InvalidTrace, 2))
            self.assertEqual(raised(function, "+-", 0, 0, 1), (InvalidNumber,))
            self.assertEqual(raised(function, "+-", 10 ** 30, 0, 1), (InvalidNumber,))
            self.assertEqual(raised(function, "+-", MOST_TIMES, 0, 1), (InvalidRegisters,))
            self.assertEqual(raised(function, "+-", 1, 1, 2), (InvalidTop,))
            self.assertIsNone(raised(function, "+-", MOST_TIMES, 1, 1))


class ConventionsTest(unittest.TestCase):

    def test_by_name(self):
        self.assertEqual(words_in_rounds(top=0, registers=2, times=3, trace="++-"), (2, 0))
        self.assertEqual(traps_in_rounds(top=0, registers=2, times=3, trace="++-"), 1)


if __name__ == "__main__":
    unittest.main()
