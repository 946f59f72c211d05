"""Points [25] and [26], with points [2], [3], [7], [12] and [13]: blocks, stretches and the fewest traps."""

import unittest
from itertools import combinations, product

from lazyspill.errors import InvalidBlocks, InvalidRegisters, InvalidTop, InvalidTrace
from lazyspill.plans import counts_of, is_plan, lazy_plan
from lazyspill.traps import (
    best_plan, blocks_of, fewest_traps, plan_in_blocks, shows_traps, stretches_of, traps_by_room,
)
from tests.samples import (
    ANY_VALUES, HILL, MOST_REGISTERS, apart, blocks_by_definition, counts_by_definition, ends_by_definition,
    first_error, levels_by_definition, long_traces, raised, registers_error, returns_new_list, top_error, trace_error,
    traces_up_to,
)

MACHINES = ((1, 0), (1, 1), (2, 0), (2, 1), (2, 2), (3, 0), (3, 1), (5, 2), (9, 0), (MOST_REGISTERS, 0))
LONG_MACHINES = (*MACHINES, (30, 1), (130, 30), (1000, 0), (999, 999), (MOST_REGISTERS, MOST_REGISTERS))
MACHINE_ARGS = (blocks_of, fewest_traps, best_plan, stretches_of)


def plans_by_definition(trace, registers, top):
    ends = ends_by_definition(trace, registers, top)
    return [list(numbers) for numbers in product(*[range(lower, upper + 1) for lower, upper in ends])]


def plan_by_definition(trace, registers, top, begins):
    """Return the plan of point [13], or the index of the first group without a common number."""
    ends = ends_by_definition(trace, registers, top)
    plan = []
    for index, begin in enumerate(begins):
        group = ends[begin:[*begins, len(ends)][index + 1]]
        common = [number for number in range(len(trace) + 1) if all(low <= number <= high for low, high in group)]
        if not common:
            return index
        ahead = plan[-1] if plan else 0
        plan += [min(common, key=lambda number: abs(number - ahead))] * len(group)
    return plan


def begins_error(trace, registers, top, value):
    if type(value) is not list or any(type(item) is not int for item in value):
        return (InvalidBlocks, None)
    if value[:1] != [0] or value[-1] > len(trace) or value != sorted(set(value)):
        return (InvalidBlocks, None)
    index = plan_by_definition(trace, registers, top, value)
    return (InvalidBlocks, index) if type(index) is int else None


def is_stretch(levels, room, value):
    if type(value) is not tuple or len(value) != 2 or any(type(item) is not int for item in value):
        return False
    begin, end = value
    moments = range(len(levels))
    return begin in moments and end in moments and begin < end and apart(levels[begin:end + 1]) > room


def shows_by_definition(trace, registers, top, value):
    levels = levels_by_definition(trace, top)
    if type(value) is not list or not all(is_stretch(levels, registers - top, item) for item in value):
        return False
    return all(after[0] >= before[1] for before, after in zip(value, value[1:]))


class ExamplesTest(unittest.TestCase):

    def test_examples(self):
        self.assertEqual(blocks_of(HILL, 3, 0), [(0, 3), (4, 8), (9, 12), (13, 16), (17, 18)])
        self.assertEqual([fewest_traps(HILL, 3, 0), counts_of(HILL, 3, 0, best_plan(HILL, 3, 0))], [4, (3, 3, 4)])
        self.assertEqual(plan_in_blocks("++++--", 3, 0, [0, 2, 4]), [0, 0, 0, 0, 1, 1, 1])
        self.assertIs(shows_traps(HILL, 3, 0, [(0, 4), (4, 9), (9, 13)]), True)
        self.assertEqual(traps_by_room("++++--", 0), [6, 3, 1, 1, 0])


class BlocksTest(unittest.TestCase):

    def test_short_traces(self):
        for trace in traces_up_to(9):
            for registers, top in MACHINES:
                blocks = blocks_of(trace, registers, top)
                levels = levels_by_definition(trace, top)
                self.assertEqual(blocks, blocks_by_definition(levels, registers - top), (trace, registers, top))
                self.assertTrue(all(type(block) is tuple for block in blocks))
                self.assertEqual(fewest_traps(trace, registers, top), len(blocks) - 1)

    def test_long_traces(self):
        for trace in ["+" * 1000, "+" * 500 + "-" * 500, "+-" * 500, *long_traces(3)]:
            for registers, top in LONG_MACHINES:
                wanted = blocks_by_definition(levels_by_definition(trace, top), registers - top)
                self.assertEqual(blocks_of(trace, registers, top), wanted)
                self.assertEqual(fewest_traps(trace, registers, top), len(wanted) - 1)

    def test_edges(self):
        self.assertEqual([blocks_of("", 1, 0), fewest_traps("", 1, 0)], [[(0, 0)], 0])
        self.assertEqual(blocks_of("+-+", 1, 1), [(0, 3)])
        self.assertEqual(blocks_of("++-", 1, 1), [(0, 1), (2, 2), (3, 3)])
        self.assertEqual(blocks_of("+++", 2, 0), [(0, 2), (3, 3)])
        self.assertEqual([fewest_traps("+" * 1000, 1000, 0), fewest_traps("+" * 1000, 999, 0)], [0, 1])
        self.assertEqual(fewest_traps("+" * 1000, 1, 0), 500)


class BestPlanTest(unittest.TestCase):

    def test_all_plans_of_short_traces(self):
        for trace in traces_up_to(6):
            for registers, top in MACHINES[:-1]:
                counts = [counts_by_definition(plan) for plan in plans_by_definition(trace, registers, top)]
                best = best_plan(trace, registers, top)
                self.assertIs(is_plan(trace, registers, top, best), True)
                fewest = tuple(min(several) for several in zip(*counts))
                self.assertEqual(counts_by_definition(best), fewest, (trace, registers, top))
                self.assertEqual(fewest_traps(trace, registers, top), fewest[2])

    def test_long_traces(self):
        for trace in ["+" * 1000, "+" * 500 + "-" * 500, "+-" * 500, *long_traces(4)]:
            for registers, top in LONG_MACHINES:
                best = best_plan(trace, registers, top)
                self.assertIs(is_plan(trace, registers, top, best), True)
                words = counts_by_definition(lazy_plan(trace, registers, top))[:2]
                traps = fewest_traps(trace, registers, top)
                self.assertEqual(counts_by_definition(best), (*words, traps))

    def test_edges(self):
        self.assertEqual([best_plan("", 1, 0), best_plan("+-", 1, 1), best_plan("+", 1, 0)], [[0], [0] * 3, [0] * 2])
        self.assertEqual(best_plan("++-", 1, 1), [0, 0, 1, 0])


class PlanInBlocksTest(unittest.TestCase):

    def test_all_groups_of_short_traces(self):
        for trace in traces_up_to(5):
            for registers, top in MACHINES:
                words = counts_by_definition(lazy_plan(trace, registers, top))[:2]
                for many in range(len(trace) + 1):
                    for others in combinations(range(1, len(trace) + 1), many):
                        begins = [0, *others]
                        wanted = plan_by_definition(trace, registers, top, begins)
                        if type(wanted) is int:
                            error = raised(plan_in_blocks, trace, registers, top, begins)
                            self.assertEqual(error, (InvalidBlocks, wanted))
                            continue
                        plan = plan_in_blocks(trace, registers, top, begins)
                        self.assertEqual(plan, wanted, (trace, registers, top, begins))
                        self.assertEqual(counts_by_definition(plan)[:2], words)

    def test_long_traces(self):
        for trace in long_traces(2, 200):
            for registers, top in ((2, 0), (5, 2), (7, 0), (3, 3)):
                begins = [begin for begin, last in blocks_of(trace, registers, top)]
                halves = sorted({*begins, *range(0, 201, 7)})
                for several in (begins, halves, list(range(201)), begins[:5] + begins[6:]):
                    wanted = plan_by_definition(trace, registers, top, several)
                    if type(wanted) is int:
                        error = raised(plan_in_blocks, trace, registers, top, several)
                        self.assertEqual(error, (InvalidBlocks, wanted))
                    else:
                        self.assertEqual(plan_in_blocks(trace, registers, top, several), wanted)

    def test_a_block_for_each_moment_is_the_lazy_plan(self):
        for trace in ["", HILL, *long_traces(3)]:
            for registers, top in LONG_MACHINES:
                plan = plan_in_blocks(trace, registers, top, list(range(len(trace) + 1)))
                self.assertEqual(plan, lazy_plan(trace, registers, top))

    def test_wrong_begins(self):
        wrong = (
            ([], None), ([1], None), ([0, 0], None), ([0, 2, 1], None), ([0, 2, 2], None), ([0, 4], None),
            ([0, -1], None), ([-1, 0], None), ([0, 1, 2, 3, 4], None), ([0, 10 ** 30], None), ([False], None),
            ([0, True], None), ([0, "1"], None), ([0, None], None), ((0,), None), ("0", None), (None, None),
            (0, None), ({}, None), ([0], 0),
        )
        for begins, index in wrong:
            self.assertEqual(raised(plan_in_blocks, "+++", 2, 0, begins), (InvalidBlocks, index), begins)
        self.assertEqual(raised(plan_in_blocks, "++++--", 2, 0, [0, 1]), (InvalidBlocks, 1))
        self.assertEqual(raised(plan_in_blocks, "++++--", 2, 0, [0, 4]), (InvalidBlocks, 0))
        self.assertEqual(raised(plan_in_blocks, "++++--", 1, 0, [0, 2, 4]), (InvalidBlocks, 2))
        self.assertEqual(raised(plan_in_blocks, "++++--", 1, 0, [0, 2, 7]), (InvalidBlocks, None))
        self.assertIsNone(raised(plan_in_blocks, "++++--", 1, 0, [0, 2, 4, 6]))
        self.assertIsNone(raised(plan_in_blocks, "++++--", 4, 0, [0]))

    def test_any_values(self):
        for trace, registers, top in (("", 1, 0), ("++-", 1, 0), ("++-", 1, 1), (HILL, 3, 0)):
            for value in ANY_VALUES:
                wanted = begins_error(trace, registers, top, value)
                self.assertEqual(raised(plan_in_blocks, trace, registers, top, value), wanted, value)


class StretchesTest(unittest.TestCase):

    def test_as_many_as_the_fewest_traps(self):
        for trace in [*traces_up_to(8), *long_traces(2)]:
            for registers, top in LONG_MACHINES:
                stretches = stretches_of(trace, registers, top)
                self.assertIs(shows_by_definition(trace, registers, top, stretches), True)
                self.assertEqual(len(stretches), fewest_traps(trace, registers, top))
                self.assertIs(shows_traps(trace, registers, top, stretches), True)

    def test_a_plan_has_a_trap_in_each_stretch(self):
        for trace in traces_up_to(5):
            for registers, top in ((1, 0), (2, 0), (2, 1), (1, 1)):
                for plan in plans_by_definition(trace, registers, top):
                    for begin, end in stretches_of(trace, registers, top):
                        self.assertGreater(apart(plan[begin:end + 1]), 0)

    def test_shows_traps_on_short_traces(self):
        for trace in traces_up_to(4):
            pairs = [(begin, end) for begin in range(-1, len(trace) + 2) for end in range(-1, len(trace) + 2)]
            for registers, top in ((1, 0), (2, 0), (2, 1), (1, 1), (2, 2), (MOST_REGISTERS, 0)):
                for many in range(3):
                    for several in product(pairs, repeat=many):
                        value = list(several)
                        wanted = shows_by_definition(trace, registers, top, value)
                        self.assertIs(shows_traps(trace, registers, top, value), wanted)

    def test_shows_traps_on_a_hill(self):
        right = (
            [], [(0, 4)], [(0, 18)], [(4, 9), (9, 13), (13, 17)], [(0, 4), (4, 9), (9, 13), (13, 17)], [(0, 5), (13, 18)],
            [(0, 4), (5, 9)],
        )
        for value in right:
            self.assertIs(shows_traps(HILL, 3, 0, value), True, value)
        wrong = (
            [(0, 3)], [(0, 4), (3, 9)], [(4, 9), (0, 4)], [(0, 4), (0, 4)], [(4, 0)], [(0, 0)], [(0, 19)], [(-1, 4)],
            [[0, 4]], [(0, 4, 9)], [(0,)], [()], [(0, True)], [(False, 4)], [(0, "4")], [(0, None)], [None], [0, 4],
            ((0, 4),), (0, 4), "", None, True, {}, 0, [(0, 10 ** 30)], [(0, 4), None], [(0, 4), (4, 8)], [(-14, -1)],
        )
        for value in wrong:
            self.assertIs(shows_traps(HILL, 3, 0, value), False, value)

    def test_any_values(self):
        for value in ANY_VALUES:
            for trace, registers, top in (("", 1, 0), ("++-", 1, 1), (HILL, 3, 0), (HILL, 2, 0)):
                wanted = shows_by_definition(trace, registers, top, value)
                self.assertIs(shows_traps(trace, registers, top, value), wanted, value)


class TrapsByRoomTest(unittest.TestCase):

    def test_each_room(self):
        for trace in [*traces_up_to(9), *long_traces(3, 150)]:
            for top in (0, 1, 2, 5):
                levels = levels_by_definition(trace, top)
                wanted = [len(blocks_by_definition(levels, 0)) - 1]
                while wanted[-1] > 0:
                    wanted.append(len(blocks_by_definition(levels, len(wanted))) - 1)
                self.assertEqual(traps_by_room(trace, top), wanted, (trace, top))

    def test_long_traces(self):
        for trace in ["+" * 500 + "-" * 500, "+-" * 500, "+" * 250 + "+-" * 250 + "-" * 250, *long_traces(4)]:
            for top in (0, 1, 30):
                traps = traps_by_room(trace, top)
                for room in {0, 1, 2, 5, len(traps) // 2, len(traps) - 2, len(traps) - 1}:
                    if 0 <= room < len(traps) and top + room >= 1:
                        self.assertEqual(traps[room], fewest_traps(trace, top + room, top))
                self.assertTrue(all(more > 0 for more in traps[:-1]))
                self.assertEqual(traps[-1], 0)

    def test_edges(self):
        self.assertEqual([traps_by_room("", 0), traps_by_room("", 1000), traps_by_room("++-", 2)], [[0], [0], [0]])
        self.assertEqual([traps_by_room("+", 0), traps_by_room("++-", 1)], [[1, 0], [2, 0]])
        wanted = [1000 // (room + 1) for room in range(1001)]
        self.assertEqual(traps_by_room("+" * 1000, 0), wanted)
        self.assertEqual([traps_by_room("+" * 1000, 999), traps_by_room("+" * 1000, 1000)], [[1, 0], [0]])


class ErrorsTest(unittest.TestCase):

    def test_any_values_for_each_parameter(self):
        for value in ANY_VALUES:
            calls = [(function, []) for function in MACHINE_ARGS] + [(plan_in_blocks, [[0, 1, 2, 3]]), (shows_traps, [[]])]
            for function, more in calls:
                wanted = trace_error(value)
                if wanted is not None:
                    self.assertEqual(raised(function, value, 3, 0, *more), wanted, value)
                self.assertEqual(raised(function, "++-", value, 0, *more), registers_error(value), value)
                self.assertEqual(raised(function, "++-", 3, value, *more), top_error(value, 3), value)
            self.assertEqual(raised(traps_by_room, value, 0), trace_error(value))
            self.assertEqual(raised(traps_by_room, "++-", value), top_error(value))

    def test_the_first_wrong_parameter_counts(self):
        traces = ("", "++-", "+--", "x", None, "+" * 1001)
        numbers = (0, 1, 2, 1001, MOST_REGISTERS, 10 ** 30, -1, True, None, "1")
        lists = ([0], [0, 1, 2, 3], [1], [0, 4], [0, 2, 2], None, "x")
        for trace, registers, top in product(traces, numbers, numbers):
            ahead = first_error([trace_error(trace), registers_error(registers)]) or top_error(top, registers)
            for function in MACHINE_ARGS:
                self.assertEqual(raised(function, trace, registers, top), ahead)
            for value in lists:
                self.assertEqual(raised(shows_traps, trace, registers, top, value), ahead)
                wanted = ahead or begins_error(trace, registers, top, value)
                self.assertEqual(raised(plan_in_blocks, trace, registers, top, value), wanted)
            wanted = first_error([trace_error(trace), top_error(top)])
            self.assertEqual(raised(traps_by_room, trace, top), wanted)

    def test_numbers_at_the_edges(self):
        for function in MACHINE_ARGS:
            self.assertEqual(raised(function, "+", 0, 0), (InvalidRegisters,))
            self.assertEqual(raised(function, "+", 10 ** 30, 0), (InvalidRegisters,))
            self.assertEqual(raised(function, "+", 4, 5), (InvalidTop,))
            self.assertEqual(raised(function, "+--", 0, -1), (InvalidTrace, 2))
            self.assertIsNone(raised(function, "+", MOST_REGISTERS, MOST_REGISTERS))
        self.assertEqual(raised(traps_by_room, "+", 1001), (InvalidTop,))
        self.assertIsNone(raised(traps_by_room, "+", 1000))


class ConventionsTest(unittest.TestCase):

    def test_by_name(self):
        self.assertEqual(blocks_of(top=0, registers=1, trace="++"), [(0, 1), (2, 2)])
        self.assertEqual(fewest_traps(top=0, registers=1, trace="++"), 1)
        self.assertEqual(best_plan(top=0, registers=1, trace="++"), [0, 0, 1])
        self.assertEqual(plan_in_blocks(begins=[0, 1], top=0, registers=1, trace="++"), [0, 1, 1])
        self.assertEqual(stretches_of(top=1, registers=1, trace="++"), [(0, 2)])
        self.assertIs(shows_traps(value=[(0, 2)], top=0, registers=1, trace="++"), True)
        self.assertEqual(traps_by_room(top=1, trace="++"), [1, 0])

    def test_returned_lists_are_new(self):
        for function, args in (
            (blocks_of, (HILL, 3, 0)), (best_plan, (HILL, 3, 0)), (plan_in_blocks, (HILL, 9, 0, [0])),
            (stretches_of, (HILL, 3, 0)), (traps_by_room, (HILL, 0)),
        ):
            self.assertTrue(returns_new_list(function, *args))

    def test_arguments_stay_as_they_are(self):
        for value in ([0, 2, 4], [(0, 4), (4, 9)], [[0], 1], [], [3, 1]):
            kept = [item.copy() if isinstance(item, list) else item for item in value]
            raised(plan_in_blocks, HILL, 3, 0, value)
            shows_traps(HILL, 3, 0, value)
            self.assertEqual(value, kept)


if __name__ == "__main__":
    unittest.main()
