"""Traces, values and expected errors that several tests share."""

import random
from itertools import permutations, product

from lazyspill.console import Console
from lazyspill.errors import (
    InvalidNumber, InvalidPlan, InvalidProgram, InvalidRegisters, InvalidRow, InvalidRule, InvalidTop, InvalidTrace,
    InvalidTree, NotClosed, SpillError,
)
from lazyspill.machines import LimitRuleStack, LimitStack, RuleStack, Stack

HILL = "+++++----++++-----"
SLOPE = "+++++---"
MOST_REGISTERS = 10 ** 30 - 1

# A few values of each kind that may be passed where any value is accepted.
ANY_VALUES = (
    None, True, False, -1, 0, 1, 2, 3, 1000, 1001, MOST_REGISTERS, 10 ** 30, 10 ** 60, -(10 ** 30),
    "", "+", "++-", "-", "+--", "+x", "+-?-", " ", "3", "lazy", "+" * 1000, "+" * 1001, "-" * 1001,
    [], [0], [0, 0], [0, 1], [0, 0, 0, 0], [0, True, 0, 0], [False, 0, 0, 0], [0, 1, 9, 0], [-1, 0, 0, 0],
    [0, 0, 0, 0, 0], [0, None, 1, 0], ["+"], [[0]], [0, (0,), 0, 0], [0] * 1005,
    [1], [1, 1], [2, 1], [1, 2], [1, 3], [3, 2, 2, 1, 1], [1, 2, 3, 2, 1], [1, 2, 4], [1, 0], [2], [1, True],
    [1, 2, None], [1, "1"], [10 ** 29, 1], [1] * 400, [1] * 401, [1] * 1000, [1] * 1001, [0, 1, 2, 3],
    [(0, 4), (4, 9), (9, 13)], [(0, 3)], [(0, 2), (1, 3)], [(2, 0)], [[0, 3]], [(0, 3, 3)], [(True, 3)], (0, 3),
    (), (0,), (0, 0, 0, 0), (None, [1]), {}, {"trace": "++-"}, {"a": [1, (2, {"b": None})]},
    ("lazy",), ("halving",), ("keep", 0), ("keep", 1), ("keep", 3), ("lot", 1), ("lot", 4), ("keep", -1), ("lot", 0),
    ("keep", 4), ("lot", 5), ("keep", True), ("lot", True), ("keep", "1"), ("lot", None), ("keep",), ("lot",),
    ("lazy", 0), ("halving", 1), ("keep", 1, 1), ["lazy"], ["keep", 1], ("LAZY",), ("",), (("lazy",),), ("other", 1),
    (["keep"], 1), (1, "keep"), "halving", "keep 1", ("keep", 10 ** 30 - 1), ("lot", 10 ** 30),
    [("", 0)], [("++-", 1), ("+", 0)], [("+--", 1)], [("+", -1)], [("+", True)], [["+", 1]], [("+", 1, 1)], [("+",)],
    [("+", 0), None], [("+", 0)] * 50, [("+", 0)] * 51, [(None, 0)],
    [1, 2, 3], [2, 9], [1, MOST_REGISTERS], [1, 10 ** 30], [1, 2, 2], [0, 1], [1, True], [2, "3"], [3, 2],
    list(range(1, 21)), list(range(1, 22)), (1, 2), ["+", "+", 1, "-"], ["+", "-", "-"], ["+", 0], ["+", "x"],
    ["+", 10 ** 30], ["+"] * 1000, ["+"] * 1001, ("+",), [1] * 1000, [2, "+", True], ["+", [1]], ["+", None],
    "+2 -1", "+2 -3", "+2  -1", "2 1", "1 2 2", "lazy 1", "lot", "lot 2", "run +1", "state", "undo", "stack 1 0",
    SpillError("text"), InvalidTrace(0), NotClosed("+"), Console(), [Console()], Stack(1, 0), (Stack(1, 0),),
    RuleStack(3, 0, ("keep", 1)), LimitStack(1, 0, 5), LimitRuleStack(1, 0, ("lazy",), 5), {"stack": Stack(2, 1)},
)


def traces_up_to(steps):
    """Return all traces of at most so many steps."""
    found = []
    for length in range(steps + 1):
        for signs in product("+-", repeat=length):
            text = "".join(signs)
            if trace_error(text) is None:
                found.append(text)
    return found


def long_traces(many, steps=1000):
    """Return some traces of this many steps, the same ones at each call."""
    source = random.Random(20)
    found = []
    for turn in range(many):
        likely = source.choice((0.3, 0.5, 0.6, 0.9))
        text, depth = "", 0
        while len(text) < steps:
            rises = depth == 0 or source.random() < likely
            text += "+" if rises else "-"
            depth += 1 if rises else -1
        found.append(text)
    return found


def closed_traces(pushes):
    """Return all closed traces with so many pushes."""
    return ["".join(signs) for signs in closed_signs(pushes, 0)]


def closed_signs(pushes, depth):
    if pushes == 0 and depth == 0:
        return [()]
    found = []
    if pushes > 0:
        found += [("+", *signs) for signs in closed_signs(pushes - 1, depth + 1)]
    if depth > 0:
        found += [("-", *signs) for signs in closed_signs(pushes, depth - 1)]
    return found


def trees_with(calls):
    """Return all trees with so many calls."""
    if calls == 0:
        return [[]]
    found = []
    for tree in trees_with(calls - 1):
        found += [[*tree, level] for level in range(1, (tree[-1] if tree else 0) + 2)]
    return found


def trees_up_to(calls):
    return [tree for many in range(calls + 1) for tree in trees_with(many)]


def long_trees(many, calls=400):
    """Return some trees with so many calls, the same ones at each call."""
    source = random.Random(11)
    found = []
    for turn in range(many):
        tree = [1]
        while len(tree) < calls:
            least = max(1, tree[-1] - source.choice((0, 1, 3, calls)))
            tree.append(source.randint(least, tree[-1] + 1))
        found.append(tree)
    return found


def orders_by_definition(tree):
    """Return all orders of a tree, straight from point [11], each one once and as a tuple."""
    calls = []
    for level in tree:
        if level == 1:
            calls.append([])
        else:
            calls[-1].append(level - 1)
    within = [[(1, *[level + 1 for level in inner]) for inner in orders_by_definition(call)] for call in calls]
    found = set()
    for sequence in set(permutations([tuple(call) for call in within])):
        found |= {sum(choice, ()) for choice in product(*sequence)}
    return found


def depth_at(trace, moment):
    return trace[:moment].count("+") - trace[:moment].count("-")


def levels_by_definition(trace, top):
    return [max(depth_at(trace, moment) - top, 0) for moment in range(len(trace) + 1)]


def calls_by_definition(trace, top):
    """Return the calls straight from point [9]."""
    depths = [depth_at(trace, moment) for moment in range(len(trace) + 1)]
    levels = [max(depth - top, 0) for depth in depths]
    found = []
    for push, sign in enumerate(trace):
        own = depths[push + 1]
        if sign == "-" or own <= top:
            continue
        pop = next((step for step in range(push + 1, len(trace)) if depths[step + 1] < own), None)
        last = len(trace) if pop is None else pop
        greatest = max(levels[push + 1:last + 1])
        found.append((push, pop, own - top, greatest - (own - top) + 1))
    return found


def row_by_definition(trace, top):
    heights = [call[3] for call in calls_by_definition(trace, top)]
    return [heights.count(height) for height in range(1, max(heights, default=0) + 1)]


def trace_error(value):
    """Return what point [3] lists for this value of `trace`: None, or the class and the field."""
    if type(value) is not str or len(value) > 1000:
        return (InvalidTrace, None)
    for index, sign in enumerate(value):
        ahead = value[:index + 1]
        if sign not in "+-" or ahead.count("-") > ahead.count("+"):
            return (InvalidTrace, index)
    return None


def registers_error(value):
    if type(value) is int and 1 <= value <= MOST_REGISTERS:
        return None
    return (InvalidRegisters,)


def top_error(value, most=1000):
    if type(value) is int and 0 <= value <= most:
        return None
    return (InvalidTop,)


def number_error(value, least=0, most=None):
    if type(value) is int and value >= least and (most is None or value <= most):
        return None
    return (InvalidNumber,)


def row_error(value):
    if type(value) is not list or len(value) > 1000:
        return (InvalidRow, None)
    for index, item in enumerate(value):
        if type(item) is not int or item < 1 or item > min([item, *value[:index][-1:]]):
            return (InvalidRow, index)
    return None


def tree_error(value):
    if type(value) is not list or len(value) > 400:
        return (InvalidTree, None)
    for index, item in enumerate(value):
        if type(item) is not int or item < 1 or item > (value[index - 1] + 1 if index else 1):
            return (InvalidTree, index)
    return None


def ends_by_definition(trace, registers, top):
    """Return the ends at all moments, straight from points [5] to [7]."""
    found = []
    for moment in range(len(trace) + 1):
        behind = trace[:moment]
        level = max(behind.count("+") - behind.count("-") - top, 0)
        found.append((max(level - (registers - top), 0), level))
    return found


def lazy_within(ends):
    """Return the lazy plan for these ends, straight from point [8]."""
    plan = [0]
    for lower, upper in ends[1:]:
        plan.append(max(lower, min(upper, plan[-1])))
    return plan


def lazy_by_definition(trace, registers, top):
    return lazy_within(ends_by_definition(trace, registers, top))


def programs_up_to(length, numbers):
    """Return all programs of at most so many items with these numbers of registers."""
    found = [[]]
    for program in found:
        if len(program) < length:
            found += [[*program, item] for item in ("+", "-", *numbers) if program.count("+") > program.count("-") or item != "-"]
    return found


def some_program(source, length, numbers):
    """Return a program of this length."""
    program = []
    likely = source.choice((0.4, 0.5, 0.6))
    while len(program) < length:
        if source.random() < 0.15:
            program.append(source.choice(numbers))
        elif source.random() < likely:
            program.append("+")
        elif program.count("+") > program.count("-"):
            program.append("-")
    return program


def program_error(top, value):
    if type(value) is not list or len(value) > 1000:
        return (InvalidProgram, None)
    depth = 0
    for index, item in enumerate(value):
        if type(item) is str and item in ("+", "-"):
            depth += 1 if item == "+" else -1
        elif type(item) is not int or not max(top, 1) <= item <= MOST_REGISTERS:
            return (InvalidProgram, index)
        if depth < 0:
            return (InvalidProgram, index)
    return None


def program_ends_by_definition(registers, top, program):
    """Return the ends at all moments, straight from point [34]."""
    found = []
    for moment in range(len(program) + 1):
        behind = program[:moment]
        level = max(behind.count("+") - behind.count("-") - top, 0)
        present = [registers, *[item for item in behind if type(item) is int]][-1]
        found.append((max(level - (present - top), 0), level))
    return found


def apart(levels):
    return max(levels) - min(levels)


def blocks_by_definition(levels, room):
    blocks = []
    begin = 0
    while begin < len(levels):
        last = begin
        while last + 1 < len(levels) and apart(levels[begin:last + 2]) <= room:
            last += 1
        blocks.append((begin, last))
        begin = last + 1
    return blocks


def counts_by_definition(plan):
    rises = [after - before for before, after in zip(plan, plan[1:])]
    written = sum(rise for rise in rises if rise > 0)
    return (written, written - plan[-1], sum(rise != 0 for rise in rises))


def rules_for(room):
    """Return all rules for machines with this room."""
    keeps = [("keep", number) for number in range(room + 1)]
    return [("lazy",), ("halving",), *keeps, *[("lot", number) for number in range(1, room + 2)]]


def rule_error(registers, top, value):
    room = registers - top
    if type(value) is tuple and len(value) == 2 and type(value[0]) is str and type(value[1]) is int:
        word, number = value
        right = (word == "keep" and 0 <= number <= room) or (word == "lot" and 1 <= number <= room + 1)
    else:
        right = type(value) is tuple and value in (("lazy",), ("halving",))
    return None if right else (InvalidRule,)


def rule_plan_by_definition(trace, registers, top, rule):
    """Return the plan of a rule straight from point [14]."""
    room = registers - top
    levels = levels_by_definition(trace, top)
    ends = ends_by_definition(trace, registers, top)
    plan = [0]
    for moment in range(1, len(levels)):
        number = plan[-1]
        lower, upper = ends[moment]
        if not lower <= number <= upper:
            if rule[0] == "lazy":
                number = lower if number < lower else upper
            elif rule[0] == "keep":
                number = max(levels[moment] - rule[1], 0)
            elif rule[0] == "lot":
                number = number + rule[1] if number < lower else max(number - rule[1], 0)
            else:
                begin, last = blocks_by_definition(levels[:moment + 1], room)[-1]
                common = range(max(low for low, _ in ends[begin:last + 1]), min(up for _, up in ends[begin:last + 1]) + 1)
                number = (common[0] + common[-1]) // 2
        plan.append(number)
    return plan


def plan_error(trace, registers, top, value):
    ends = ends_by_definition(trace, registers, top)
    if type(value) is not list or len(value) != len(ends):
        return (InvalidPlan, None)
    if any(type(number) is not int for number in value):
        return (InvalidPlan, None)
    for index, number in enumerate(value):
        if number not in range(ends[index][0], ends[index][1] + 1):
            return (InvalidPlan, index)
    return None


def first_error(errors):
    """Return the first one that is not None."""
    for error in errors:
        if error is not None:
            return error
    return None


def raised(function, *args, **more):
    """Return the class and the fields of the error that a call raises, or None."""
    try:
        function(*args, **more)
    except SpillError as error:
        return (type(error), *vars(error).values())
    return None


def returns_new_list(function, *args):
    """Return whether a returned list that is changed leaves the next one as the first one was."""
    first = function(*args)
    kept = list(first)
    first.append("more")
    first[0] = "other"
    return function(*args) == kept
