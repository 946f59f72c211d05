"""Point [34], with points [2], [3], [7], [8], [12] and [13]: programs, in which the number of registers changes."""

import random
import unittest
from itertools import product

from lazyspill.changes import (
    changing_best, changing_counts, changing_ends, changing_lazy, changing_traps, is_program,
)
from lazyspill.errors import InvalidPlan, InvalidProgram, InvalidRegisters, InvalidTop
from lazyspill.plans import counts_of, ends_of, lazy_plan
from lazyspill.traps import best_plan, fewest_traps
from tests.samples import (
    ANY_VALUES, HILL, MOST_REGISTERS, counts_by_definition, lazy_within, long_traces, program_ends_by_definition,
    program_error, programs_up_to, raised, registers_error, returns_new_list, some_program, top_error, traces_up_to,
)

PROGRAM = ["+", "+", "+", 1, "+", 4, "-"]
PLAIN = (changing_ends, changing_lazy, changing_traps, changing_best)


def plan_within_error(ends, value):
    if type(value) is not list or len(value) != len(ends) or any(type(number) is not int for number in value):
        return (InvalidPlan, None)
    for index, (lower, upper) in enumerate(ends):
        if not lower <= value[index] <= upper:
            return (InvalidPlan, index)
    return None


def fewest_within(ends):
    """Return the fewest traps for these ends: blocks are as long as possible."""
    traps = 0
    begin = 0
    for moment in range(len(ends)):
        group = ends[begin:moment + 1]
        if max(lower for lower, _ in group) > min(upper for _, upper in group):
            traps += 1
            begin = moment
    return traps


class ExamplesTest(unittest.TestCase):

    def test_examples(self):
        self.assertEqual(changing_ends(3, 0, PROGRAM)[3:6], [(0, 3), (2, 3), (3, 4)])
        self.assertEqual(changing_lazy(3, 0, PROGRAM), [0, 0, 0, 0, 2, 3, 3, 3])
        self.assertEqual(changing_best(3, 0, PROGRAM), [0, 0, 0, 0, 3, 3, 3, 3])
        self.assertEqual(changing_counts(3, 0, PROGRAM, changing_lazy(3, 0, PROGRAM)), (3, 0, 2))


class ProgramsTest(unittest.TestCase):

    def check(self, registers, top, program):
        ends = program_ends_by_definition(registers, top, program)
        self.assertEqual(changing_ends(registers, top, program), ends)
        lazy = lazy_within(ends)
        self.assertEqual(changing_lazy(registers, top, program), lazy)
        words = counts_by_definition(lazy)
        self.assertEqual(changing_counts(registers, top, program, lazy), words)
        traps = fewest_within(ends)
        self.assertEqual(changing_traps(registers, top, program), traps, (registers, top, program))
        best = changing_best(registers, top, program)
        self.assertIsNone(plan_within_error(ends, best))
        self.assertEqual(counts_by_definition(best), (words[0], words[1], traps), (registers, top, program))
        self.assertEqual(changing_counts(registers, top, program, best), counts_by_definition(best))

    def test_short_programs(self):
        for registers, top, numbers in ((1, 0, (1, 2)), (3, 0, (1, 4)), (2, 1, (1, 3)), (2, 2, (2, 3))):
            for program in programs_up_to(6, numbers):
                self.assertIs(is_program(top, program), True)
                self.check(registers, top, program)

    def test_all_plans_of_short_programs(self):
        for registers, top, numbers in ((1, 0, (1, 3)), (3, 1, (1, 2))):
            for program in programs_up_to(5, numbers):
                ends = program_ends_by_definition(registers, top, program)
                plans = product(*[range(lower, upper + 1) for lower, upper in ends])
                counts = [counts_by_definition(plan) for plan in plans]
                fewest = tuple(min(several) for several in zip(*counts))
                best = changing_best(registers, top, program)
                self.assertEqual(changing_counts(registers, top, program, best), fewest)

    def test_longer_programs(self):
        source = random.Random(7)
        for length in (50, 150):
            for turn in range(40):
                top = source.choice((0, 1, 3))
                self.check(source.randint(top + 1, 9), top, some_program(source, length, (3, 4, 5, 9, 20)))

    def test_a_program_without_numbers_is_a_trace(self):
        for trace in [*traces_up_to(7), HILL, "+" * 1000, *long_traces(2)]:
            for registers, top in ((1, 0), (2, 1), (3, 0), (4, 4), (MOST_REGISTERS, MOST_REGISTERS)):
                program = list(trace)
                self.assertEqual(changing_ends(registers, top, program), ends_of(trace, registers, top))
                self.assertEqual(changing_lazy(registers, top, program), lazy_plan(trace, registers, top))
                self.assertEqual(changing_traps(registers, top, program), fewest_traps(trace, registers, top))
                best = best_plan(trace, registers, top)
                counts = counts_of(trace, registers, top, best)
                self.assertEqual(changing_counts(registers, top, program, best), counts)

    def test_edges(self):
        self.assertEqual([changing_ends(1, 0, []), changing_lazy(1, 0, []), changing_traps(1, 0, [])], [[(0, 0)], [0], 0])
        self.assertEqual(changing_ends(3, 0, [1, MOST_REGISTERS]), [(0, 0)] * 3)
        # A number that comes twice, or at once again, changes nothing.
        self.assertEqual(changing_lazy(9, 0, ["+", "+", "+", 1, 1, 9, 1]), [0, 0, 0, 0, 2, 2, 2, 2])
        # More than one word moves at one step; only pops read.
        program = ["+"] * 9 + [1, 9] + ["-"] * 9
        self.assertEqual(changing_lazy(9, 0, program), [0] * 10 + [8] * 3 + [7, 6, 5, 4, 3, 2, 1, 0])
        self.assertEqual(changing_traps(9, 0, ["+", "+", 1, 2, "-", "-"]), 2)
        self.assertEqual(changing_lazy(4, 2, ["+", "+", "+", "+", 2, 4]), [0, 0, 0, 0, 0, 2, 2])


class ErrorsTest(unittest.TestCase):

    def test_is_program(self):
        for length in range(4):
            for items in product(("+", "-", 0, 1, 2, True, None, "", "++"), repeat=length):
                for top in (0, 2):
                    value = list(items)
                    wanted = program_error(top, value)
                    self.assertIs(is_program(top, value), wanted is None, value)
                    self.assertEqual(raised(changing_lazy, 2, top, value), wanted, value)

    def test_wrong_programs(self):
        for top, program, index in (
            (0, ["-"], 0), (0, ["+", "-", "-"], 2), (0, [0], 0), (2, [1], 0), (2, ["+", 2, 1], 2), (0, ["+", 10 ** 30], 1),
            (0, ["+", -1], 1), (0, ["+", True], 1), (0, ["+", None], 1), (0, ["++"], 0), (0, [["+"]], 0), (0, "++-", None),
            (0, ("+",), None), (0, None, None), (0, {}, None), (0, 3, None), (0, ["+"] * 1001, None),
            (0, ["-"] * 1001, None), (0, ["+"] * 999 + ["x"], 999), (3, [3, 2, "-"], 1),
        ):
            self.assertIs(is_program(top, program), False, program)
            for function in PLAIN:
                self.assertEqual(raised(function, 3, top, program), (InvalidProgram, index), program)
            self.assertEqual(raised(changing_counts, 3, top, program, [0]), (InvalidProgram, index), program)
        for top, program in ((0, ["+"] * 1000), (3, [3, MOST_REGISTERS, "+"]), (0, [1] * 1000), (1000, [1000]), (0, [])):
            self.assertIs(is_program(top, program), True)

    def test_wrong_plans(self):
        for plan, index in (
            ([0] * 7, None), ([0] * 9, None), ([0, 0, 0, 0, 2, 3, 3, True], None), ([0, 0, 0, 0, 2, 3, 3, None], None),
            ([0, 0, 0, 0, 1, 3, 3, 3], 4), ([0, 0, 0, 0, 2, 2, 3, 3], 5), ([1, 0, 0, 0, 2, 3, 3, 3], 0),
            ([0, 0, 0, 0, 2, 3, 3, 4], 7), ([0, 0, -1, 0, 2, 3, 3, 3], 2), ((0, 0, 0, 0, 2, 3, 3, 3), None), (None, None),
            ([0, 0, 0, 0, 2, 3, 5, 9], 6),
        ):
            self.assertEqual(raised(changing_counts, 3, 0, PROGRAM, plan), (InvalidPlan, index), plan)
        for plan in ([0, 0, 0, 0, 2, 3, 3, 3], [0, 1, 2, 3, 3, 4, 4, 3], [0, 0, 0, 0, 2, 3, 0, 0]):
            self.assertEqual(changing_counts(3, 0, PROGRAM, plan), counts_by_definition(plan))

    def test_any_values_for_each_parameter(self):
        ends = program_ends_by_definition(3, 0, PROGRAM)
        for value in ANY_VALUES:
            self.assertEqual(raised(is_program, value, []), top_error(value), value)
            for top in (0, 1, 3, 1000):
                wanted = program_error(top, value)
                self.assertIs(is_program(top, value), wanted is None, value)
                for function in PLAIN:
                    self.assertEqual(raised(function, 1000, top, value), wanted, value)
            for function, more in [(function, []) for function in PLAIN] + [(changing_counts, [[0, 0]])]:
                self.assertEqual(raised(function, value, 0, ["+"], *more), registers_error(value), value)
                self.assertEqual(raised(function, 3, value, ["+"], *more), top_error(value, 3), value)
            self.assertEqual(raised(changing_counts, 3, 0, PROGRAM, value), plan_within_error(ends, value), value)

    def test_the_first_wrong_parameter_counts(self):
        numbers = (0, 1, 2, 1001, MOST_REGISTERS, 10 ** 30, True, None)
        programs = ([], ["+"], ["+", 1], ["-"], None)
        for registers, top, program, plan in product(numbers, numbers, programs, ([0], [0, 0], None)):
            machine = registers_error(registers) or top_error(top, registers)
            wanted = machine or program_error(top, program)
            for function in PLAIN:
                self.assertEqual(raised(function, registers, top, program), wanted)
            if wanted is None:
                wanted = plan_within_error(program_ends_by_definition(registers, top, program), plan)
            self.assertEqual(raised(changing_counts, registers, top, program, plan), wanted)

    def test_numbers_at_the_edges(self):
        self.assertEqual(raised(is_program, 1001, None), (InvalidTop,))
        self.assertEqual(raised(changing_ends, 0, 1, None), (InvalidRegisters,))
        self.assertEqual(raised(changing_ends, 1, 2, None), (InvalidTop,))
        self.assertIsNone(raised(changing_ends, 2000, 2000, [2000]))
        self.assertEqual(raised(changing_ends, 2000, 2000, [1999]), (InvalidProgram, 0))


class ConventionsTest(unittest.TestCase):

    def test_by_name(self):
        self.assertIs(is_program(value=["+"], top=0), True)
        self.assertEqual(changing_ends(program=["+"], top=1, registers=1), [(0, 0), (0, 0)])
        self.assertEqual(changing_lazy(program=["+", "+"], top=0, registers=1), [0, 0, 1])
        self.assertEqual(changing_traps(program=["+", "+"], top=0, registers=1), 1)
        self.assertEqual(changing_best(program=["+", "+"], top=0, registers=1), [0, 0, 1])
        self.assertEqual(changing_counts(plan=[0, 0, 1], program=["+", "+"], top=0, registers=1), (1, 0, 1))

    def test_returned_lists_are_new(self):
        for function in (changing_ends, changing_lazy, changing_best):
            self.assertTrue(returns_new_list(function, 3, 0, PROGRAM))

    def test_arguments_stay_as_they_are(self):
        for program in (list(PROGRAM), ["-"], ["+", [1]], []):
            kept = list(program)
            is_program(0, program)
            for function in PLAIN:
                raised(function, 3, 0, program)
            plan = [0] * (len(program) + 1)
            raised(changing_counts, 3, 0, program, plan)
            self.assertEqual((program, plan), (kept, [0] * (len(kept) + 1)))


if __name__ == "__main__":
    unittest.main()
