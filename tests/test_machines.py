"""Points [35] and [36], with points [2], [3], [8], [14] and [34]: stacks that are run step by step."""

import random
import unittest
from itertools import product

from lazyspill.changes import changing_counts, changing_lazy
from lazyspill.errors import (
    Empty, Fixed, InvalidNumber, InvalidProgram, InvalidRegisters, InvalidRule, InvalidTop, NothingToUndo, Refused,
)
from lazyspill.machines import LimitRuleStack, LimitStack, RuleStack, Stack
from lazyspill.rules import plan_of_rule
from tests.samples import (
    ANY_VALUES, MOST_REGISTERS, blocks_by_definition, counts_by_definition, lazy_within, levels_by_definition,
    number_error, program_ends_by_definition, programs_up_to, raised, registers_error, rule_error,
    rule_plan_by_definition, rules_for, some_program, top_error,
)

PROPERTIES = ("registers", "top", "depth", "memory", "written", "read", "traps", "program")


class Model:
    """What a stack of one of the classes must do, by the plan of its whole program."""

    def __init__(self, registers, top, rule=None, most=None):
        self.registers, self.top, self.rule, self.most = registers, top, rule, most

    def made(self):
        """Return the stack of the class that fits."""
        if self.rule is None:
            return Stack(self.registers, self.top) if self.most is None else LimitStack(self.registers, self.top, self.most)
        if self.most is None:
            return RuleStack(self.registers, self.top, self.rule)
        return LimitRuleStack(self.registers, self.top, self.rule, self.most)

    def plan(self, program):
        if self.rule is None:
            return lazy_within(program_ends_by_definition(self.registers, self.top, program))
        return rule_plan_by_definition("".join(program), self.registers, self.top, self.rule)

    def result(self, program, item):
        """Return what the call of an item returns, or its error as a tuple."""
        if item == "-" and program.count("+") == program.count("-"):
            return (Empty,)
        if type(item) is int and self.rule is not None:
            return (Fixed,)
        plan = self.plan([*program, item])
        written, read, _ = counts_by_definition(plan)
        if self.most is not None and written + read > self.most:
            return (Refused, written + read)
        return plan[-1] - plan[-2]

    def results(self, program, items):
        """Return what `would` returns, or its error as a tuple."""
        for index, item in enumerate(items):
            right = item in ("+", "-") if type(item) is str else registers_error(item) is None and item >= self.top
            if not right:
                return (InvalidProgram, index)
        found = []
        for index, item in enumerate(items):
            result = self.result([*program, *items[:index]], item)
            if type(result) is tuple:
                return result
            found.append(result)
        return found

    def properties(self, program):
        """Return the values of all properties, and the strings of `described`."""
        plan = self.plan(program)
        written, read, traps = counts_by_definition(plan)
        depth = program.count("+") - program.count("-")
        present = [self.registers, *[item for item in program if type(item) is int]][-1]
        values = [present, self.top, depth, plan[-1], written, read, traps, program]
        lines = [f"depth {depth}", f"memory {plan[-1]}"]
        if self.rule is not None:
            values.append(self.rule)
            lines.append("rule " + " ".join(map(str, self.rule)))
        if self.most is not None:
            values.append(self.most)
            lines.append(f"left {self.most - written - read}")
        return (values, lines)

    def key(self, program):
        """Return what two stacks must have in common to be equal."""
        block = None
        if self.rule == ("halving",):
            levels = levels_by_definition("".join(program), self.top)
            begin, last = blocks_by_definition(levels, self.registers - self.top)[-1]
            block = (min(levels[begin:]), max(levels[begin:]))
        values = self.properties(program)[0]
        return (self.rule is None, self.rule, self.most, block, values[:7])


def call(stack, item):
    if item == "+":
        return stack.push()
    return stack.pop() if item == "-" else stack.set_registers(item)


def result_of(function, *args):
    """Return what a call returns, or its error as a tuple."""
    error = raised(function, *args)
    return function(*args) if error is None else error


def state_of(stack):
    names = [*PROPERTIES, *[name for name in ("rule", "most") if hasattr(stack, name)]]
    return ([getattr(stack, name) for name in names], stack.described())


def run(stack, program):
    for item in program:
        call(stack, item)
    return stack


MODELS = (
    Model(1, 0), Model(3, 0), Model(2, 1), Model(4, 2), Model(2, 2), Model(1, 0, most=4), Model(2, 1, most=1),
    Model(3, 0, most=0), *[Model(3, 0, rule) for rule in rules_for(3)], *[Model(4, 1, rule) for rule in rules_for(3)],
    Model(1, 1, ("halving",)), Model(2, 0, ("halving",), 5), Model(2, 0, ("lot", 3), 7), Model(3, 1, ("keep", 0), 0),
    Model(4, 0, ("halving",)),
)


class ExamplesTest(unittest.TestCase):

    def test_examples(self):
        stack = Stack(3, 0)
        self.assertEqual([[stack.push() for turn in range(5)], [stack.pop() for turn in range(3)]],
                         [[0, 0, 0, 1, 1], [0, 0, 0]])
        self.assertEqual([stack.memory, stack.traps, stack.would("-", "+", 1)], [2, 2, [-1, 0, 0]])
        self.assertEqual([stack.set_registers(1), stack.push(), stack.undo()], [0, 0, None])
        self.assertEqual([stack.program[5:], len(stack), stack == stack.twin()], [["-", "-", "-", 1], 9, True])
        other = RuleStack(3, 0, ("keep", 1))
        self.assertEqual([other.push() for turn in range(4)], [0, 0, 0, 3])
        self.assertEqual(other.described(), ["depth 4", "memory 3", "rule keep 1"])
        self.assertEqual(LimitStack(1, 0, 5).would("+", "+", "+"), [0, 1, 1])


class RunsTest(unittest.TestCase):

    def check(self, model, stack, program):
        self.assertEqual(state_of(stack), model.properties(program))
        self.assertEqual(len(stack), len(program))
        self.assertEqual(stack, stack.twin())

    def test_short_programs(self):
        for model in MODELS:
            numbers = () if model.rule is not None else (model.top + 1, max(model.top, 1))
            for program in programs_up_to(4 if numbers else 6, numbers):
                stack = model.made()
                done = []
                for item in program:
                    wanted = model.result(done, item)
                    self.assertEqual(raised(call, stack.twin(), item), wanted if type(wanted) is tuple else None)
                    if type(wanted) is not tuple:
                        self.assertEqual(call(stack, item), wanted, (program, item))
                        done.append(item)
                self.check(model, stack, done)

    def test_calls_of_all_kinds(self):
        source = random.Random(13)
        for model in MODELS * 3:
            stack, done = model.made(), []
            older = []
            for turn in range(30):
                kind = source.choice(("+", "+", "+", "-", "-", "undo", "number", "would", "twin"))
                if kind == "undo":
                    self.assertEqual(raised(stack.undo), None if done else (NothingToUndo,))
                    done = done[:-1]
                elif kind == "would":
                    items = [source.choice(("+", "+", "-", model.top + 1, "+", 9)) for _ in range(source.randint(0, 6))]
                    self.assertEqual(result_of(stack.would, *items), model.results(done, items))
                elif kind == "twin":
                    older.append((stack.twin(), list(done)))
                else:
                    item = source.randint(max(model.top, 1), 6) if kind == "number" else kind
                    wanted = model.result(done, item)
                    if type(wanted) is tuple:
                        self.assertEqual(raised(call, stack, item), wanted)
                    else:
                        self.assertEqual(call(stack, item), wanted)
                        done = [*done, item]
                self.check(model, stack, done)
            for twin, program in older:
                self.check(model, twin, program)

    def test_long_programs_against_the_plans(self):
        source = random.Random(4)
        for turn in range(10):
            registers, top = source.choice(((1, 0), (3, 1), (9, 0), (30, 30)))
            program = some_program(source, 280, (30, 40, 50) if top > 3 else (3, 5, 8))
            stack = run(Stack(registers, top), program)
            plan = changing_lazy(registers, top, program)
            self.assertEqual(stack.memory, plan[-1])
            counts = changing_counts(registers, top, program, plan)
            self.assertEqual((stack.written, stack.read, stack.traps), counts)
            steps = [item for item in program if type(item) is str]
            for rule in (("halving",), ("keep", 0), ("lot", 1), ("lazy",)):
                stack = run(RuleStack(registers, top, rule), steps)
                plan = plan_of_rule("".join(steps), registers, top, rule)
                self.assertEqual(stack.memory, plan[-1])
                self.assertEqual((stack.written, stack.read, stack.traps), counts_by_definition(plan))

    def test_great_numbers(self):
        stack = Stack(MOST_REGISTERS, MOST_REGISTERS)
        self.assertEqual([stack.push(), stack.set_registers(MOST_REGISTERS), stack.registers], [0, 0, MOST_REGISTERS])
        stack = run(Stack(MOST_REGISTERS, 0), "+" * 9)
        self.assertEqual([stack.set_registers(1), stack.memory, stack.traps], [8, 8, 1])
        self.assertEqual([stack.undo(), stack.memory, stack.set_registers(4), stack.written], [None, 0, 5, 5])
        stack = RuleStack(MOST_REGISTERS, 0, ("halving",))
        self.assertEqual([stack.push(), stack.push(), stack.pop(), stack.memory], [0, 0, 0, 0])
        self.assertEqual(LimitStack(1, 0, 10 ** 30 - 1).described()[2], f"left {10 ** 30 - 1}")


class UndoTest(unittest.TestCase):

    def test_all_calls_are_reverted_one_after_another(self):
        source = random.Random(6)
        for model in MODELS:
            stack, states = model.made(), []
            while len(states) < 40:
                item = source.choice(("+", "+", "-"))
                if model.rule is None and source.random() < 0.2:
                    item = source.randint(max(model.top, 1), 6)
                state = state_of(stack)
                if raised(call, stack, item) is None:
                    states.append(state)
                elif model.most is not None and source.random() < 0.3:
                    break
            for state in states[::-1]:
                self.assertIsNone(stack.undo())
                self.assertEqual(state_of(stack), state)
            self.assertEqual(raised(stack.undo), (NothingToUndo,))
            self.assertEqual(stack, model.made())

    def test_a_reverted_block_begins_again(self):
        # The number of halving goes by the levels in the present block; reverted levels are not among them.
        stack = run(RuleStack(4, 0, ("halving",)), "++++")
        stack.undo()
        stack.undo()
        for item in "+++":
            stack.push()
        self.assertEqual(stack.memory, rule_plan_by_definition("+++++", 4, 0, ("halving",))[-1])
        stack = run(RuleStack(4, 0, ("halving",)), "+++++")
        other = stack.twin()
        other.push()
        other.undo()
        self.assertEqual(stack, other)

    def test_a_twin_reverts_the_same_calls(self):
        for model in MODELS:
            stack = model.made()
            while len(stack) < 6 and raised(stack.push) is None:
                pass
            twin = stack.twin()
            self.assertIs(type(twin), type(stack))
            kept = state_of(stack)
            for turn in range(len(stack)):
                self.assertIsNone(twin.undo())
            self.assertEqual(raised(twin.undo), (NothingToUndo,))
            self.assertEqual(state_of(stack), kept)
            self.assertEqual(twin, model.made())
            other = stack.twin()
            stack.undo()
            self.assertEqual(state_of(other), kept)


class EqualityTest(unittest.TestCase):

    def test_all_pairs(self):
        stacks = []
        for model in MODELS:
            numbers = () if model.rule is not None else (model.top + 1, 3)
            for program in programs_up_to(3 if numbers else 4, numbers):
                stack = model.made()
                if raised(run, stack.twin(), program) is None:
                    stacks.append((run(stack, program), model.key(program)))
        for (one, one_key), (other, other_key) in product(stacks, stacks):
            self.assertIs(one == other, one_key == other_key, (one_key, other_key))
            self.assertIs(one != other, one_key != other_key)

    def test_calls_do_not_count(self):
        self.assertEqual(run(Stack(3, 0), [1, 2, 3]), Stack(3, 0))
        self.assertEqual(run(Stack(3, 0), "+-"), Stack(3, 0))
        self.assertNotEqual(run(Stack(3, 0), [2]), Stack(3, 0))
        self.assertEqual(run(RuleStack(3, 0, ("lazy",)), "+-"), RuleStack(3, 0, ("lazy",)))
        # The present block of the first one goes from level 0 to 1.
        self.assertNotEqual(run(RuleStack(3, 0, ("halving",)), "+-"), RuleStack(3, 0, ("halving",)))
        self.assertNotEqual(run(LimitRuleStack(3, 0, ("halving",), 9), "+-"), LimitRuleStack(3, 0, ("halving",), 9))

    def test_stacks_of_different_classes(self):
        stacks = [Stack(3, 0), RuleStack(3, 0, ("lazy",)), LimitStack(3, 0, 5), LimitRuleStack(3, 0, ("lazy",), 5)]
        for one, other in product(stacks, stacks):
            self.assertIs(one == other, one is other)
        self.assertNotEqual(LimitStack(3, 0, 5), LimitStack(3, 0, 6))
        self.assertNotEqual(LimitRuleStack(3, 0, ("lazy",), 5), LimitRuleStack(3, 0, ("lazy",), 6))
        self.assertNotEqual(LimitRuleStack(3, 0, ("lazy",), 5), LimitRuleStack(3, 0, ("keep", 0), 5))

    def test_any_other_value(self):
        for value in ANY_VALUES:
            for stack in (Stack(9, 9), RuleStack(2, 0, ("lazy",)), LimitStack(1, 0, 7), LimitRuleStack(1, 0, ("lazy",), 7)):
                self.assertIs(stack == value, False)
                self.assertIs(value == stack, False)
                self.assertIs(stack != value, True)


class ClassesTest(unittest.TestCase):

    def test_classes(self):
        self.assertTrue(issubclass(RuleStack, Stack) and issubclass(LimitStack, Stack))
        self.assertTrue(issubclass(LimitRuleStack, RuleStack) and issubclass(LimitRuleStack, LimitStack))
        self.assertFalse(issubclass(RuleStack, LimitStack) or issubclass(LimitStack, RuleStack))

    def test_properties_are_there_at_once(self):
        stack = LimitRuleStack(3, 1, ("keep", 2), 4)
        self.assertEqual(state_of(stack), (
            [3, 1, 0, 0, 0, 0, 0, [], ("keep", 2), 4], ["depth 0", "memory 0", "rule keep 2", "left 4"],
        ))
        self.assertEqual(len(stack), 0)
        for stack, names in (
            (stack, (*PROPERTIES, "rule", "most")), (Stack(3, 1), PROPERTIES), (LimitStack(3, 1, 2), ("most",)),
        ):
            for name in names:
                with self.assertRaises(AttributeError):
                    setattr(stack, name, 1)

    def test_fixed(self):
        for stack in (RuleStack(3, 1, ("lazy",)), LimitRuleStack(3, 1, ("lazy",), 0)):
            stack.push()
            for value in ANY_VALUES:
                self.assertEqual(raised(stack.set_registers, value), (Fixed,))
            self.assertEqual(raised(stack.would, "+", 3), (Fixed,))
            self.assertEqual(raised(stack.would, "-", "-", 3), (Empty,))
            self.assertEqual(raised(stack.would, 3, "-", "-"), (Fixed,))
            self.assertEqual(raised(stack.would, 3, 0), (InvalidProgram, 1))
            self.assertEqual(stack.program, ["+"])

    def test_refused(self):
        stack = run(LimitStack(1, 0, 3), "++++")
        self.assertEqual([stack.described(), raised(stack.push)], [["depth 4", "memory 3", "left 0"], (Refused, 4)])
        self.assertEqual([stack.pop(), raised(stack.pop), raised(stack.set_registers, 0)],
                         [0, (Refused, 4), (InvalidRegisters,)])
        self.assertEqual([len(stack), stack.depth, stack.undo(), stack.undo(), stack.push()], [5, 3, None, None, 1])
        stack = run(LimitStack(9, 0, 3), "+" * 9)
        self.assertEqual([raised(stack.set_registers, 2), stack.registers], [(Refused, 7), 9])
        self.assertEqual([stack.set_registers(6), stack.memory], [3, 3])
        stack = LimitRuleStack(2, 0, ("lot", 3), 5)
        self.assertEqual([raised(stack.pop), raised(stack.would, "+", "+", "+", "-", "-", "-"), stack.would("+", "+", "+")],
                         [(Empty,), (Refused, 6), [0, 0, 3]])
        self.assertEqual(raised(LimitRuleStack(2, 0, ("lot", 3), 0).would, "+", "+", "+", 2), (Refused, 3))
        self.assertEqual(raised(LimitRuleStack(2, 0, ("lot", 3), 0).would, "+", "+", 2, "+"), (Fixed,))


class ErrorsTest(unittest.TestCase):

    def test_any_values_for_each_parameter(self):
        for value in ANY_VALUES:
            for kind, more in ((Stack, []), (RuleStack, [("lazy",)]), (LimitStack, [5]), (LimitRuleStack, [("lazy",), 5])):
                self.assertEqual(raised(kind, value, 0, *more), registers_error(value), value)
                self.assertEqual(raised(kind, 3, value, *more), top_error(value, 3), value)
            self.assertEqual(raised(RuleStack, 3, 0, value), rule_error(3, 0, value), value)
            self.assertEqual(raised(LimitRuleStack, 3, 0, value, 5), rule_error(3, 0, value), value)
            self.assertEqual(raised(LimitStack, 3, 0, value), number_error(value), value)
            self.assertEqual(raised(LimitRuleStack, 3, 0, ("lazy",), value), number_error(value), value)
            for top in (0, 2):
                wanted = registers_error(value) or (InvalidRegisters,) * (value < top)
                stack = Stack(3, top)
                self.assertEqual(raised(stack.set_registers, value), wanted or None, value)
                self.assertEqual(len(stack), 0 if wanted else 1)
                right = not wanted or (type(value) is str and value in ("+", "-"))
                error = raised(Stack(3, top).would, "+", value, "-")
                self.assertEqual(error, (Empty,) if value == "-" else None if right else (InvalidProgram, 1), value)

    def test_the_first_wrong_parameter_counts(self):
        rules = (("lazy",), ("keep", 9), None)
        numbers = (0, 1, 2, 10 ** 30, -1, True, None)
        for registers, top, rule, most in product(numbers, numbers, rules, numbers):
            machine = registers_error(registers) or top_error(top, registers)
            self.assertEqual(raised(Stack, registers, top), machine)
            self.assertEqual(raised(LimitStack, registers, top, most), machine or number_error(most))
            wanted = machine or rule_error(registers, top, rule)
            self.assertEqual(raised(RuleStack, registers, top, rule), wanted)
            self.assertEqual(raised(LimitRuleStack, registers, top, rule, most), wanted or number_error(most))
        for rule in (("keep", 1), ("lot", 2)):
            for registers, top, right in ((1, 0, True), (1, 1, False), (2, 1, True), (9, 8, True), (9, 9, False)):
                self.assertEqual(raised(RuleStack, registers, top, rule), None if right else (InvalidRule,))
                self.assertEqual(raised(LimitRuleStack, registers, top, rule, 0), None if right else (InvalidRule,))
        self.assertEqual(raised(LimitRuleStack, 3, 4, None, -1), (InvalidTop,))
        self.assertEqual(raised(LimitRuleStack, 3, 3, None, -1), (InvalidRule,))
        self.assertEqual(raised(LimitRuleStack, 3, 3, ("lazy",), -1), (InvalidNumber,))

    def test_errors_change_nothing(self):
        for model in MODELS:
            stack = model.made()
            while stack.depth < 3 and raised(stack.push) is None:
                pass
            kept, many = state_of(stack), len(stack)
            for item in (0, -1, None, True, 10 ** 30, "+"):
                raised(stack.set_registers, item)
            for items in (("-",) * 9, ("+", None), ("+", 0), ("+", "+", "x"), (["+"],), ("+", model.top + 1) + ("-",) * 9):
                self.assertIsNotNone(raised(stack.would, *items))
            self.assertEqual((state_of(stack), len(stack)), (kept, many))
            for turn in range(many):
                stack.undo()
            for turn in range(3):
                self.assertEqual([raised(stack.pop), raised(stack.undo)], [(Empty,), (NothingToUndo,)])
            self.assertEqual(stack, model.made())

    def test_would(self):
        stack = run(Stack(2, 1), "+++")
        self.assertEqual([stack.would(), stack.would("+"), stack.would(*"+" * 12)], [[], [1], [1] * 12])
        self.assertEqual(stack.would(1, 2, "-", "+", MOST_REGISTERS), [1, 0, -1, 0, 0])
        self.assertEqual(stack.would(*["-"] * 3), [0, -1, 0])
        for items, error in (
            (["-"] * 4, (Empty,)), (["-"] * 5 + ["x"], (InvalidProgram, 5)), (["x", 0], (InvalidProgram, 0)),
            ([0], (InvalidProgram, 0)), (["++"], (InvalidProgram, 0)), (["+", True], (InvalidProgram, 1)),
        ):
            self.assertEqual(raised(stack.would, *items), error)
        self.assertEqual(stack.program, ["+", "+", "+"])


class ConventionsTest(unittest.TestCase):

    def test_by_name(self):
        self.assertEqual(Stack(top=1, registers=2), Stack(2, 1))
        self.assertEqual(RuleStack(rule=("lot", 1), top=1, registers=2), RuleStack(2, 1, ("lot", 1)))
        self.assertEqual(LimitStack(most=3, top=1, registers=2), LimitStack(2, 1, 3))
        self.assertEqual(LimitRuleStack(most=3, rule=("lazy",), top=1, registers=2), LimitRuleStack(2, 1, ("lazy",), 3))
        self.assertEqual(Stack(3, 0).set_registers(number=2), 0)
        self.assertEqual(raised(RuleStack(3, 0, ("lazy",)).set_registers, number=2), (Fixed,))
        self.assertEqual(raised(LimitRuleStack(3, 0, ("lazy",), 2).set_registers, number=2), (Fixed,))

    def test_returned_lists_are_new(self):
        for model in MODELS:
            stack = model.made()
            raised(stack.push)
            kept = state_of(stack)
            stack.program.append("-")
            stack.program[:] = []
            stack.described().append("more")
            self.assertEqual(state_of(stack), kept)
            self.assertIsNot(stack.program, stack.program)
            stack.would().append(1)
            self.assertEqual([stack.would(), state_of(stack)], [[], kept])


if __name__ == "__main__":
    unittest.main()
