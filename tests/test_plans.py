"""Points [20] and [21], with points [2], [3] and [6] to [9]: plans and moments."""

import unittest
from itertools import accumulate, combinations, product

from lazyspill.errors import InvalidMoments, InvalidPlan, InvalidRegisters, InvalidTop, InvalidTrace
from lazyspill.plans import counts_of, ends_of, is_plan, lazy_plan, moved_by, turning_moments
from lazyspill.traces import calls_of
from tests.samples import (
    ANY_VALUES, HILL, MOST_REGISTERS, ends_by_definition, first_error, long_traces, plan_error, raised,
    registers_error, returns_new_list, top_error, trace_error, traces_up_to,
)

MACHINES = ((1, 0), (1, 1), (2, 0), (2, 1), (2, 2), (3, 0), (3, 1), (5, 2), (9, 0), (MOST_REGISTERS, 0))
GREAT_MACHINES = (
    (1000, 0), (999, 999), (1000, 1000), (1001, 1001), (5000, 4999), (MOST_REGISTERS, MOST_REGISTERS),
    (MOST_REGISTERS, MOST_REGISTERS - 1), (MOST_REGISTERS, 500), (MOST_REGISTERS, 10 ** 29),
)
MACHINE_ARGS = (ends_of, lazy_plan, turning_moments)


def plans_by_definition(trace, registers, top):
    ends = ends_by_definition(trace, registers, top)
    return [list(numbers) for numbers in product(*[range(lower, upper + 1) for lower, upper in ends])]


def sums_along(numbers):
    """Return the sums of the first 0, 1, 2 and so on of the numbers."""
    return [0, *accumulate(numbers)]


def written_along(plan):
    return sums_along([max(after - before, 0) for before, after in zip(plan, plan[1:])])


def read_along(plan):
    return sums_along([max(before - after, 0) for before, after in zip(plan, plan[1:])])


def moved_along(plan):
    return sums_along([abs(after - before) for before, after in zip(plan, plan[1:])])


def traps_by_definition(plan):
    return sum(before != after for before, after in zip(plan, plan[1:]))


def moved_by_definition(trace, registers, top, moments):
    ends = ends_by_definition(trace, registers, top)
    total = 0
    for place, moment in enumerate(moments):
        if place == 0:
            total += ends[moment][0]
        elif place in range(2, 2000, 2):
            total += ends[moment][0] - ends[moments[place - 1]][1]
        else:
            total += ends[moments[place - 1]][0] - ends[moment][1]
    return total


def turning_by_definition(plan):
    """Return the traps behind which the next trap moves the other way, or is none."""
    traps = [at for at in range(1, len(plan)) if plan[at] != plan[at - 1]]
    rising = [plan[at] > plan[at - 1] for at in traps]
    return [at for place, at in enumerate(traps) if place + 1 == len(traps) or rising[place] != rising[place + 1]]


def moments_error(trace, value):
    if type(value) is not list or any(type(moment) is not int for moment in value):
        return (InvalidMoments, None)
    for index, moment in enumerate(value):
        if moment not in range(len(trace) + 1) or (index > 0 and moment <= value[index - 1]):
            return (InvalidMoments, index)
    return None


class ExamplesTest(unittest.TestCase):

    def test_examples(self):
        plan = [0, 0, 0, 0, 1, 2, 2, 2, 2, 1, 1, 1, 1, 2, 2, 2, 2, 1, 0]
        self.assertEqual(lazy_plan(HILL, 3, 0), plan)
        self.assertEqual(counts_of(HILL, 3, 0, plan), (3, 3, 6))
        self.assertEqual(turning_moments(HILL, 3, 0), [5, 9, 13, 18])
        self.assertEqual([moved_by(HILL, 3, 0, [5, 9, 13, 18]), moved_by(HILL, 3, 0, [5, 18])], [6, 4])


class EndsTest(unittest.TestCase):

    def test_short_traces(self):
        for trace in traces_up_to(7):
            for registers, top in MACHINES + GREAT_MACHINES:
                ends = ends_of(trace, registers, top)
                self.assertEqual(ends, ends_by_definition(trace, registers, top), (trace, registers, top))
                self.assertTrue(all(type(pair) is tuple for pair in ends))

    def test_long_traces(self):
        for trace in ["+" * 1000, *long_traces(3)]:
            for registers, top in MACHINES + GREAT_MACHINES:
                self.assertEqual(ends_of(trace, registers, top), ends_by_definition(trace, registers, top))

    def test_edges(self):
        self.assertEqual(ends_of("", 1, 0), [(0, 0)])
        self.assertEqual(ends_of("++-", 2, 2), [(0, 0), (0, 0), (0, 0), (0, 0)])
        self.assertEqual(ends_of("+++", 1, 1), [(0, 0), (0, 0), (1, 1), (2, 2)])
        self.assertEqual(ends_of("+++", MOST_REGISTERS, 1), [(0, 0), (0, 0), (0, 1), (0, 2)])


class IsPlanTest(unittest.TestCase):

    def test_lists_of_numbers_near_the_ends(self):
        for trace in traces_up_to(3):
            for registers, top in MACHINES:
                plans = plans_by_definition(trace, registers, top)
                for numbers in product(range(-1, 5), repeat=len(trace) + 1):
                    value = list(numbers)
                    self.assertIs(is_plan(trace, registers, top, value), value in plans)

    def test_each_number_just_outside_its_ends(self):
        for registers, top in ((3, 0), (3, 1), (3, 3), (MOST_REGISTERS, 0)):
            plan = lazy_plan(HILL, registers, top)
            for index, (lower, upper) in enumerate(ends_of(HILL, registers, top)):
                for number in (lower - 1, lower, upper, upper + 1):
                    value = plan[:index] + [number] + plan[index + 1:]
                    right = lower <= number <= upper
                    self.assertIs(is_plan(HILL, registers, top, value), right)
                    wanted = None if right else (InvalidPlan, index)
                    self.assertEqual(raised(counts_of, HILL, registers, top, value), wanted)

    def test_the_first_wrong_number_counts(self):
        self.assertEqual(raised(counts_of, "++-", 1, 0, [0, 2, 9, -1]), (InvalidPlan, 1))
        self.assertEqual(raised(counts_of, "++-", 1, 0, [1, 2, 9, -1]), (InvalidPlan, 0))
        self.assertEqual(raised(counts_of, "++-", 1, 0, [0, 1, 1, -1]), (InvalidPlan, 3))
        self.assertEqual(raised(counts_of, "++-", 1, 0, [0, 1, 1, 10 ** 30]), (InvalidPlan, 3))

    def test_lists_of_another_length(self):
        for value in ([], [0], [0, 0, 1], [0, 0, 1, 0, 0], [9, 9, 9], [-1] * 5):
            self.assertIs(is_plan("++-", 1, 0, value), False)
            self.assertEqual(raised(counts_of, "++-", 1, 0, value), (InvalidPlan, None))

    def test_items_of_other_kinds(self):
        for item in (True, False, None, "0", [0], (0,), {}, "", InvalidPlan(0)):
            for value in ([item, 0, 1, 0], [0, 0, 1, item], [-1, 0, 1, item]):
                self.assertIs(is_plan("++-", 1, 0, value), False)
                self.assertEqual(raised(counts_of, "++-", 1, 0, value), (InvalidPlan, None))

    def test_other_kinds(self):
        self.assertIs(is_plan("++-", 1, 0, [0, 0, 1, 0]), True)
        for value in ((0, 0, 1, 0), {"0": 0}, "0010", None, 0, True):
            self.assertIs(is_plan("++-", 1, 0, value), False)
            self.assertEqual(raised(counts_of, "++-", 1, 0, value), (InvalidPlan, None))


class CountsTest(unittest.TestCase):

    def test_all_plans_of_short_traces(self):
        for trace in traces_up_to(5):
            for registers, top in MACHINES:
                for plan in plans_by_definition(trace, registers, top):
                    wanted = (written_along(plan)[-1], read_along(plan)[-1], traps_by_definition(plan))
                    counts = counts_of(trace, registers, top, plan)
                    self.assertEqual(counts, wanted)
                    self.assertIs(type(counts), tuple)
                    self.assertEqual(counts[0] - counts[1], plan[-1])

    def test_edges(self):
        self.assertEqual(counts_of("", 1, 0, [0]), (0, 0, 0))
        self.assertEqual(counts_of("+++---", 3, 0, [0, 0, 0, 3, 0, 0, 0]), (3, 3, 2))
        self.assertEqual(counts_of("+" * 1000, 1000, 0, [0] * 1000 + [1000]), (1000, 0, 1))


class LazyPlanTest(unittest.TestCase):

    def test_each_number_is_the_nearest_one(self):
        for trace in [*traces_up_to(7), *long_traces(3)]:
            for registers, top in MACHINES + GREAT_MACHINES:
                plan = lazy_plan(trace, registers, top)
                ends = ends_by_definition(trace, registers, top)
                self.assertEqual(len(plan), len(ends))
                self.assertEqual(plan[0], 0)
                for ahead, number, (lower, upper) in zip(plan, plan[1:], ends[1:]):
                    nearest = lower if ahead < lower else upper if ahead > upper else ahead
                    self.assertEqual(number, nearest)

    def test_fewest_words_up_to_each_moment(self):
        for trace in traces_up_to(6):
            for registers, top in ((1, 0), (2, 0), (3, 0), (3, 1), (2, 2)):
                lazy = lazy_plan(trace, registers, top)
                for plan in plans_by_definition(trace, registers, top):
                    for along in (written_along, read_along, moved_along):
                        self.assertTrue(all(few <= many for few, many in zip(along(lazy), along(plan))))
                    for moment in range(len(plan)):
                        apart = abs(lazy[moment] - plan[moment])
                        self.assertLessEqual(moved_along(lazy)[moment] + apart, moved_along(plan)[moment])

    def test_later_steps_do_not_matter(self):
        whole = lazy_plan(HILL, 3, 1)
        for steps in range(len(HILL) + 1):
            self.assertEqual(lazy_plan(HILL[:steps], 3, 1), whole[:steps + 1])

    def test_words_are_calls_above_the_room(self):
        for trace in [*traces_up_to(8), *long_traces(2)]:
            for registers, top in MACHINES:
                plan = lazy_plan(trace, registers, top)
                high = [call for call in calls_of(trace, top) if call[3] > registers - top]
                unpopped = [call for call in high if call[1] is None]
                self.assertEqual(written_along(plan)[-1], len(high))
                self.assertEqual(plan[-1], len(unpopped))
                self.assertEqual(read_along(plan)[-1], len(high) - len(unpopped))

    def test_rooms_at_the_edges(self):
        self.assertEqual(lazy_plan("+++--", 2, 2), [0, 0, 0, 1, 0, 0])
        self.assertEqual(lazy_plan("+++--", 1, 1), [0, 0, 1, 2, 1, 0])
        self.assertEqual(lazy_plan("+++--", 1, 0), [0, 0, 1, 2, 2, 1])
        self.assertEqual(lazy_plan("+" * 1000, 1000, 0), [0] * 1001)
        self.assertEqual(lazy_plan("+" * 1000, 999, 0), [0] * 1000 + [1])
        self.assertEqual(lazy_plan("+" * 1000, MOST_REGISTERS, MOST_REGISTERS), [0] * 1001)


class MomentsTest(unittest.TestCase):

    def test_turning_moments_show_the_words_of_the_lazy_plan(self):
        for trace in [*traces_up_to(9), *long_traces(4)]:
            for registers, top in MACHINES + GREAT_MACHINES:
                plan = lazy_plan(trace, registers, top)
                moments = turning_moments(trace, registers, top)
                self.assertEqual(moments, turning_by_definition(plan))
                self.assertEqual(moved_by(trace, registers, top, moments), moved_along(plan)[-1])

    def test_no_moments_show_more_words_than_a_plan_moves(self):
        for trace in traces_up_to(7):
            for registers, top in ((1, 0), (2, 0), (3, 1), (2, 2), (MOST_REGISTERS, 0)):
                moved = moved_along(lazy_plan(trace, registers, top))[-1]
                for many in range(len(trace) + 2):
                    for chosen in combinations(range(len(trace) + 1), many):
                        total = moved_by(trace, registers, top, list(chosen))
                        self.assertEqual(total, moved_by_definition(trace, registers, top, chosen))
                        self.assertLessEqual(total, moved)

    def test_edges(self):
        self.assertEqual([turning_moments("", 1, 0), turning_moments("+++---", 3, 0)], [[], []])
        self.assertEqual([moved_by("", 1, 0, []), moved_by("", 1, 0, [0]), moved_by(HILL, 3, 0, [])], [0, 0, 0])
        self.assertEqual([moved_by("+++", 1, 0, [3]), moved_by("+++", 1, 0, [2, 3])], [2, -1])
        self.assertEqual(moved_by("+++-", MOST_REGISTERS, 0, [0, 3, 4]), -6)
        self.assertEqual(turning_moments("+++", 1, 0), [3])
        every = list(range(1001))
        for trace in long_traces(3):
            self.assertEqual(moved_by(trace, 2, 1, every), moved_by_definition(trace, 2, 1, every))

    def test_wrong_moments(self):
        wrong = (
            ([-1], 0), ([4], 0), ([0, 0], 1), ([0, 4], 1), ([1, 0], 1), ([2, 3, 3], 2), ([0, 1, 2, 3, 4], 4),
            ([0, 9, 1], 1), ([9, -1], 0), ([10 ** 30], 0), ([0, -(10 ** 30)], 1),
            ([True], None), ([0, None], None), ([9, "1"], None), ([0, [1]], None), ((0, 1), None), ("01", None),
            (None, None), (0, None), (False, None), ({}, None),
        )
        for value, index in wrong:
            self.assertEqual(raised(moved_by, "++-", 1, 0, value), (InvalidMoments, index), value)

    def test_any_values(self):
        for trace in ("", "+", "++-", "+" * 1000):
            for value in ANY_VALUES:
                self.assertEqual(raised(moved_by, trace, 1, 0, value), moments_error(trace, value), value)


class ErrorsTest(unittest.TestCase):

    def test_any_values_for_each_parameter(self):
        for value in ANY_VALUES:
            for function, more in ((ends_of, []), (lazy_plan, []), (turning_moments, []), (moved_by, [[]])):
                self.assertEqual(raised(function, value, 3, 0, *more), trace_error(value), value)
                self.assertEqual(raised(function, "++-", value, 0, *more), registers_error(value), value)
                self.assertEqual(raised(function, "++-", 3, value, *more), top_error(value, 3), value)
            self.assertEqual(raised(is_plan, value, 3, 0, value), trace_error(value))
            self.assertEqual(raised(is_plan, "++-", value, 0, value), registers_error(value))
            self.assertEqual(raised(is_plan, "++-", 3, value, value), top_error(value, 3))
            wanted = plan_error("++-", 3, 0, value)
            self.assertIs(is_plan("++-", 3, 0, value), wanted is None, value)
            self.assertEqual(raised(counts_of, "++-", 3, 0, value), wanted, value)

    def test_the_first_wrong_parameter_counts(self):
        traces = ("", "++-", "+--", "x", None, "+" * 1001)
        numbers = (0, 1, 2, MOST_REGISTERS, 10 ** 30, -1, True, None, "1")
        lists = ([0, 0, 1, 0], [0, 0, 9, 9], [0], [0, True, 1, 1], [0, 2], None)
        for trace, registers, top in product(traces, numbers, numbers):
            ahead = first_error([trace_error(trace), registers_error(registers)])
            ahead = ahead or top_error(top, registers)
            for function in MACHINE_ARGS:
                self.assertEqual(raised(function, trace, registers, top), ahead)
            for value in lists:
                self.assertEqual(raised(is_plan, trace, registers, top, value), ahead)
                wanted = ahead or plan_error(trace, registers, top, value)
                self.assertEqual(raised(counts_of, trace, registers, top, value), wanted)
                wanted = ahead or moments_error(trace, value)
                self.assertEqual(raised(moved_by, trace, registers, top, value), wanted)

    def test_numbers_at_the_edges(self):
        for function in MACHINE_ARGS:
            self.assertEqual(raised(function, "+", 0, 0), (InvalidRegisters,))
            self.assertEqual(raised(function, "+", 10 ** 30, 0), (InvalidRegisters,))
            self.assertEqual(raised(function, "+", 4, 5), (InvalidTop,))
            self.assertEqual(raised(function, "+", 4, -1), (InvalidTop,))
            self.assertEqual(raised(function, "+", MOST_REGISTERS, MOST_REGISTERS + 1), (InvalidTop,))
            self.assertEqual(raised(function, "+-" * 501, 0, -1), (InvalidTrace, None))
            for registers, top in ((1, 0), (1, 1), (2000, 1001), (MOST_REGISTERS, MOST_REGISTERS)):
                self.assertIsNone(raised(function, "+", registers, top))


class ConventionsTest(unittest.TestCase):

    def test_by_name(self):
        plan = [0, 0, 1, 1]
        self.assertEqual(ends_of(top=0, registers=1, trace="+"), [(0, 0), (0, 1)])
        self.assertIs(is_plan(value=plan, top=0, registers=1, trace="++-"), True)
        self.assertEqual(counts_of(plan=plan, top=0, registers=1, trace="++-"), (1, 0, 1))
        self.assertEqual(lazy_plan(top=0, registers=1, trace="++-"), plan)
        self.assertEqual(moved_by(moments=[2], top=0, registers=1, trace="++-"), 1)
        self.assertEqual(turning_moments(top=0, registers=1, trace="++-"), [2])

    def test_returned_lists_are_new(self):
        for function in MACHINE_ARGS:
            self.assertTrue(returns_new_list(function, HILL, 3, 0))

    def test_arguments_stay_as_they_are(self):
        for plan in (lazy_plan(HILL, 3, 0), [0] * 19, [None] * 19, [[0], {"a": [1]}]):
            kept = [item.copy() if isinstance(item, (list, dict)) else item for item in plan]
            is_plan(HILL, 3, 0, plan)
            raised(counts_of, HILL, 3, 0, plan)
            raised(moved_by, HILL, 3, 0, plan)
            self.assertEqual(plan, kept)
        moments = [5, 9, 13, 18]
        moved_by(HILL, 3, 0, moments)
        self.assertEqual(moments, [5, 9, 13, 18])


if __name__ == "__main__":
    unittest.main()
