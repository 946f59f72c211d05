"""Point [28], with points [2], [3], [14] and [15]: rules, their plans, and the traps that nobody can avoid."""

import unittest
from itertools import product

from lazyspill.errors import Bounded, InvalidNumber, InvalidRegisters, InvalidRule, InvalidTop, InvalidTrace
from lazyspill.plans import is_plan, lazy_plan
from lazyspill.rules import forcing_trace, is_rule, most_in_block, plan_of_rule, restless_trace
from tests.samples import (
    ANY_VALUES, HILL, MOST_REGISTERS, blocks_by_definition, counts_by_definition, first_error, levels_by_definition,
    long_traces, number_error, raised, registers_error, returns_new_list, rule_error, rule_plan_by_definition,
    rules_for, top_error, trace_error, traces_up_to,
)

MACHINES = ((1, 0), (1, 1), (2, 0), (2, 1), (3, 0), (3, 1), (4, 0), (6, 2))


def digits(room):
    """Return the number of binary digits of the room and 1."""
    return len(f"{room + 1:b}")


def traps_in_blocks(trace, registers, top, plan):
    """Return the list of the numbers of traps in each block; the step to a moment belongs to its block."""
    blocks = blocks_by_definition(levels_by_definition(trace, top), registers - top)
    changes = [0] + [int(before != after) for before, after in zip(plan, plan[1:])]
    return [sum(changes[begin:last + 1]) for begin, last in blocks]


def fewest_by_definition(trace, registers, top):
    return len(blocks_by_definition(levels_by_definition(trace, top), registers - top)) - 1


def next_number(rule, room, number, level, levels):
    """Return the next number of a rule straight from point [14], for all levels of the present block."""
    lower = max(level - room, 0)
    if lower <= number <= level:
        return number
    if rule[0] == "lazy":
        return min(max(number, lower), level)
    if rule[0] == "keep":
        return max(level - rule[1], 0)
    if rule[0] == "lot":
        return number + rule[1] if number < lower else max(number - rule[1], 0)
    return (max(max(levels) - room, 0) + min(levels)) // 2


def most_by_search(room, rule):
    """Return the greatest number of traps in a block over all traces, None if it is above room + 1.

    A block is known by the levels in it; all states with a level up to a few blocks high are looked at.
    """
    start = (0, 0, frozenset([0]), 0)
    seen = {start}
    waiting = [start]
    greatest = 0
    while waiting:
        level, number, levels, traps = waiting.pop()
        for after in {max(level - 1, 0), level + 1} - {level, 4 * room + 5}:
            among = levels | {after}
            count = traps
            if max(among) - min(among) > room:
                among, count = frozenset([after]), 0
            moved = next_number(rule, room, number, after, among)
            count += moved != number
            if count > room + 1:
                return None
            greatest = max(greatest, count)
            state = (after, moved, among, count)
            if state not in seen:
                seen.add(state)
                waiting.append(state)
    return greatest


class ExamplesTest(unittest.TestCase):

    def test_examples(self):
        plans = [plan_of_rule("++++---", 3, 0, rule) for rule in [("lazy",), ("halving",), ("keep", 1), ("lot", 2)]]
        self.assertEqual(plans, [
            [0, 0, 0, 0, 1, 1, 1, 1], [0, 0, 0, 0, 2, 2, 2, 1], [0, 0, 0, 0, 3, 3, 1, 1], [0, 0, 0, 0, 2, 2, 2, 0],
        ])
        rules = [("lazy",), ("halving",), ("keep", 1), ("keep", 0), ("keep", 2), ("lot", 2)]
        self.assertEqual([most_in_block(3, 0, rule) for rule in rules], [4, 3, 4, 4, None, None])


class IsRuleTest(unittest.TestCase):

    def test_all_rules_of_small_rooms(self):
        for registers, top in ((1, 0), (1, 1), (3, 0), (5, 3), (6, 6)):
            room = registers - top
            for word, number in product(("lazy", "halving", "keep", "lot", "Lazy", ""), range(-2, room + 4)):
                self.assertIs(is_rule(registers, top, (word, number)), (word, number) in rules_for(room))
            for rule in rules_for(room):
                self.assertIs(is_rule(registers, top, rule), True)
                self.assertIs(is_rule(registers, top, list(rule)), False)
                self.assertIs(is_rule(registers, top, (*rule, 0)), (*rule, 0) in rules_for(room))

    def test_great_rooms(self):
        for word, number, wanted in (
            ("keep", MOST_REGISTERS, True), ("keep", MOST_REGISTERS + 1, False),
            ("lot", MOST_REGISTERS + 1, True), ("lot", MOST_REGISTERS + 2, False), ("lot", 0, False),
        ):
            self.assertIs(is_rule(MOST_REGISTERS, 0, (word, number)), wanted)
        self.assertIs(is_rule(MOST_REGISTERS, MOST_REGISTERS, ("keep", 1)), False)
        self.assertIs(is_rule(MOST_REGISTERS, MOST_REGISTERS, ("lot", 1)), True)

    def test_any_values(self):
        for value in ANY_VALUES:
            for registers, top in ((1, 0), (1, 1), (3, 0), (4, 3), (MOST_REGISTERS, 0)):
                wanted = rule_error(registers, top, value)
                self.assertIs(is_rule(registers, top, value), wanted is None, value)
                self.assertEqual(raised(plan_of_rule, "++-", registers, top, value), wanted, value)
                self.assertEqual(raised(most_in_block, registers, top, value), wanted, value)
            self.assertEqual(raised(forcing_trace, 3, 0, value, 1), rule_error(3, 0, value), value)
            wanted = rule_error(3, 0, value)
            if wanted is None and value not in (("keep", 2), ("lot", 2), ("lot", 3), ("lot", 4)):
                wanted = (Bounded,)
            self.assertEqual(raised(restless_trace, 3, 0, value, 1)[:1] if wanted else None, wanted, value)


class PlanOfRuleTest(unittest.TestCase):

    def test_all_rules_on_short_traces(self):
        for trace in traces_up_to(8):
            for registers, top in MACHINES:
                for rule in rules_for(registers - top):
                    plan = plan_of_rule(trace, registers, top, rule)
                    self.assertEqual(plan, rule_plan_by_definition(trace, registers, top, rule), (trace, registers, rule))
                    self.assertIs(is_plan(trace, registers, top, plan), True)

    def test_longer_traces(self):
        for trace in ["+" * 60 + "-" * 60, "+-" * 60, *long_traces(3, 120)]:
            for registers, top in ((1, 0), (4, 1), (8, 0), (20, 3), (15, 0)):
                for rule in rules_for(registers - top):
                    plan = plan_of_rule(trace, registers, top, rule)
                    self.assertEqual(plan, rule_plan_by_definition(trace, registers, top, rule))

    def test_lazy_is_the_lazy_plan(self):
        for trace in [HILL, "+" * 1000, "+" * 500 + "-" * 500, *long_traces(3)]:
            for registers, top in (*MACHINES, (100, 3), (1000, 1000), (MOST_REGISTERS, 0)):
                self.assertEqual(plan_of_rule(trace, registers, top, ("lazy",)), lazy_plan(trace, registers, top))

    def test_edges(self):
        for rule in rules_for(1):
            self.assertEqual(plan_of_rule("", 1, 0, rule), [0])
        self.assertEqual(plan_of_rule("++-", 1, 1, ("keep", 0)), [0, 0, 1, 0])
        self.assertEqual(plan_of_rule("+++---", 2, 0, ("lot", 3)), [0, 0, 0, 3, 0, 0, 0])
        self.assertEqual(plan_of_rule("++++----", 3, 0, ("halving",)), [0, 0, 0, 0, 2, 2, 2, 1, 0])
        self.assertEqual(plan_of_rule("+" * 5, MOST_REGISTERS, 0, ("lot", 10 ** 30)), [0] * 6)

    def test_the_block_goes_up_to_the_next_moment_only(self):
        # The later pops belong to the same block; at the trap the middle is that of the numbers 1 to 4.
        self.assertEqual(plan_of_rule("++++", 3, 0, ("halving",))[4], 2)
        self.assertEqual(plan_of_rule("++++-", 3, 0, ("halving",))[4], 2)
        self.assertEqual(plan_of_rule("+++++++++-------", 7, 0, ("halving",)), [0] * 8 + [4] * 7 + [2, 2])


class MostInBlockTest(unittest.TestCase):

    def test_against_all_traces(self):
        for room in range(5):
            for rule in rules_for(room):
                for top in (0, 2):
                    if room + top > 0:
                        self.assertEqual(most_in_block(room + top, top, rule), most_by_search(room, rule), (room, rule))

    def test_greater_rooms(self):
        self.assertEqual(most_in_block(15, 0, ("halving",)), 5)
        self.assertEqual(most_in_block(14, 0, ("halving",)), 4)
        self.assertEqual(most_in_block(MOST_REGISTERS, 0, ("halving",)), 100)
        self.assertEqual(most_in_block(MOST_REGISTERS, 0, ("lazy",)), 10 ** 30)
        self.assertEqual(most_in_block(MOST_REGISTERS, 0, ("lot", 1)), 10 ** 30)
        self.assertIsNone(most_in_block(MOST_REGISTERS, 0, ("lot", 2)))
        self.assertEqual(most_in_block(MOST_REGISTERS, 0, ("keep", 7)), 10 ** 30)
        self.assertIsNone(most_in_block(MOST_REGISTERS, 0, ("keep", 6)))
        self.assertEqual(most_in_block(MOST_REGISTERS, 0, ("keep", MOST_REGISTERS)), 10 ** 30)
        self.assertEqual(most_in_block(MOST_REGISTERS, MOST_REGISTERS, ("halving",)), 1)

    def test_no_block_has_more_traps(self):
        for trace in [HILL, "+" * 40 + "-" * 40, *long_traces(3, 200)]:
            for registers, top in ((1, 0), (3, 1), (7, 0)):
                for rule in rules_for(registers - top):
                    plan = plan_of_rule(trace, registers, top, rule)
                    traps = traps_in_blocks(trace, registers, top, plan)
                    most = most_in_block(registers, top, rule)
                    self.assertTrue(most is None or max(traps) <= most)
                    self.assertEqual(traps[0], 0)


class ForcingTraceTest(unittest.TestCase):

    def check(self, registers, top, rule, traps):
        trace = forcing_trace(registers, top, rule, traps)
        self.assertIsNone(trace_error(trace))
        self.assertEqual(fewest_by_definition(trace, registers, top), traps, (registers, top, rule))
        plan = plan_of_rule(trace, registers, top, rule)
        self.assertGreaterEqual(counts_by_definition(plan)[2], traps * digits(registers - top))

    def test_all_rules(self):
        for room in range(16):
            for rule in rules_for(room):
                self.check(room + 1, 1, rule, 1)
                self.check(room + 50, 50, rule, 5)
        for room in (1, 2, 6, 7):
            for rule in rules_for(room):
                for traps in (1, 2, 3, 4, 5):
                    self.check(room, 0, rule, traps)

    def test_halving_has_no_more_than_it_must(self):
        for room in range(1, 16):
            trace = forcing_trace(room, 0, ("halving",), 3)
            self.assertEqual(counts_by_definition(plan_of_rule(trace, room, 0, ("halving",)))[2], 3 * digits(room))


class RestlessTraceTest(unittest.TestCase):

    def test_all_rules(self):
        for room in range(16):
            for rule in rules_for(room):
                for top, many in ((1, 1), (0, 7), (50, 20)):
                    if room + top == 0:
                        continue
                    if most_in_block(room + top, top, rule) is not None:
                        self.assertEqual(raised(restless_trace, room + top, top, rule, many)[0], Bounded)
                        continue
                    trace = restless_trace(room + top, top, rule, many)
                    self.assertIsNone(trace_error(trace))
                    self.assertEqual(fewest_by_definition(trace, room + top, top), 1, (room, rule))
                    plan = plan_of_rule(trace, room + top, top, rule)
                    self.assertGreaterEqual(counts_by_definition(plan)[2], many)

    def test_errors_come_ahead_of_bounded(self):
        self.assertEqual(raised(restless_trace, 3, 0, ("lazy",), 1)[0], Bounded)
        self.assertEqual(raised(restless_trace, 3, 0, ("lazy",), 0)[0], InvalidNumber)
        self.assertEqual(raised(restless_trace, 3, 0, ("lazy",), 21)[0], InvalidNumber)
        self.assertEqual(raised(restless_trace, 3, 0, ("lazy", 1), 21)[0], InvalidRule)
        self.assertEqual(raised(restless_trace, 3, 4, ("lazy", 1), 21)[0], InvalidTop)


class ErrorsTest(unittest.TestCase):

    def test_any_values_for_each_parameter(self):
        for value in ANY_VALUES:
            self.assertEqual(raised(plan_of_rule, value, 3, 0, ("lazy",)), trace_error(value))
            calls = (
                (is_rule, [], [None]), (plan_of_rule, ["++"], [("lazy",)]), (most_in_block, [], [("lazy",)]),
                (forcing_trace, [], [("lazy",), 1]), (restless_trace, [], [("lot", 2), 1]),
            )
            for function, ahead, behind in calls:
                if not (type(value) is int and value > 15):
                    wanted = registers_error(value)
                    if wanted is None and function is restless_trace and value < 1:
                        wanted = (InvalidRule,)
                    self.assertEqual(raised(function, *ahead, value, 0, *behind), wanted, (function, value))
                wanted = top_error(value, 3)
                if wanted is None and function is restless_trace and value == 3:
                    wanted = (InvalidRule,)
                self.assertEqual(raised(function, *ahead, 3, value, *behind), wanted, (function, value))
            self.assertEqual(raised(forcing_trace, 3, 0, ("lazy",), value), number_error(value, 1, 5))
            self.assertEqual(raised(restless_trace, 3, 0, ("lot", 2), value), number_error(value, 1, 20))

    def test_the_first_wrong_parameter_counts(self):
        numbers = (0, 1, 2, 4, MOST_REGISTERS, 10 ** 30, -1, True, None, "1")
        rules = (("lazy",), ("keep", 1), ("lot", 2), ("keep", 9), ("lot", 0), None, "lazy")
        for registers, top, rule in product(numbers, numbers, rules):
            machine = registers_error(registers) or top_error(top, registers)
            self.assertEqual(raised(is_rule, registers, top, rule), machine)
            wanted = machine or rule_error(registers, top, rule)
            self.assertEqual(raised(most_in_block, registers, top, rule), wanted)
            for trace in ("", "+--", None):
                error = first_error([trace_error(trace)]) or wanted
                self.assertEqual(raised(plan_of_rule, trace, registers, top, rule), error)
            for number in (0, 6, 21, -1, None, True):
                error = wanted or (InvalidNumber,)
                self.assertEqual(raised(forcing_trace, registers, top, rule, number), error)
                if number != 6:
                    self.assertEqual(raised(restless_trace, registers, top, rule, number), error)

    def test_numbers_at_the_edges(self):
        self.assertEqual(raised(is_rule, 0, 0, None), (InvalidRegisters,))
        self.assertEqual(raised(plan_of_rule, "+--", 0, 0, None), (InvalidTrace, 2))
        self.assertIsNone(raised(forcing_trace, 3, 0, ("lazy",), 5))
        self.assertIsNone(raised(restless_trace, 3, 0, ("lot", 2), 20))


class ConventionsTest(unittest.TestCase):

    def test_by_name(self):
        self.assertIs(is_rule(value=("lot", 4), top=0, registers=3), True)
        self.assertEqual(plan_of_rule(rule=("keep", 0), top=0, registers=1, trace="++"), [0, 0, 2])
        self.assertEqual(most_in_block(rule=("lazy",), top=1, registers=3), 3)
        trace = forcing_trace(traps=2, rule=("lazy",), top=0, registers=1)
        self.assertEqual(trace, forcing_trace(1, 0, ("lazy",), 2))
        trace = restless_trace(many=2, rule=("lot", 2), top=0, registers=1)
        self.assertEqual(trace, restless_trace(1, 0, ("lot", 2), 2))

    def test_returned_lists_are_new(self):
        self.assertTrue(returns_new_list(plan_of_rule, HILL, 3, 0, ("halving",)))


if __name__ == "__main__":
    unittest.main()
