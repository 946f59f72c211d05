"""Traces, values and expected errors that several tests share."""

import random
from itertools import permutations, product

from lazyspill.errors import (
    InvalidNumber, InvalidPlan, InvalidRegisters, InvalidRow, InvalidTop, InvalidTrace, InvalidTree, NotClosed,
    SpillError,
)

HILL = "+++++----++++-----"
SLOPE = "+++++---"
MOST_REGISTERS = 10 ** 30 - 1

# A few values of each kind that may be passed where any value is accepted.
ANY_VALUES = (
    None, True, False, -1, 0, 1, 2, 3, 1000, 1001, MOST_REGISTERS, 10 ** 30, 10 ** 60, -(10 ** 30),
    "", "+", "++-", "-", "+--", "+x", "+-?-", " ", "3", "lazy", "+" * 1000, "+" * 1001, "-" * 1001,
    [], [0], [0, 0], [0, 1], [0, 0, 0, 0], [0, True, 0, 0], [False, 0, 0, 0], [0, 1, 9, 0], [-1, 0, 0, 0],
    [0, 0, 0, 0, 0], [0, None, 1, 0], ["+"], [[0]], [0, (0,), 0, 0], [0] * 1005,
    [1], [1, 1], [2, 1], [1, 2], [1, 3], [3, 2, 2, 1, 1], [1, 2, 3, 2, 1], [1, 2, 4], [1, 0], [2], [1, True],
    [1, 2, None], [1, "1"], [10 ** 29, 1], [1] * 400, [1] * 401, [1] * 1000, [1] * 1001, [0, 1, 2, 3],
    [(0, 4), (4, 9), (9, 13)], [(0, 3)], [(0, 2), (1, 3)], [(2, 0)], [[0, 3]], [(0, 3, 3)], [(True, 3)], (0, 3),
    (), (0,), (0, 0, 0, 0), ("lazy",), (None, [1]), {}, {"trace": "++-"}, {"a": [1, (2, {"b": None})]},
    SpillError("text"), InvalidTrace(0), NotClosed("+"),
)


def traces_up_to(steps):
    """Return all traces of at most so many steps."""
    found = []
    for length in range(steps + 1):
        for signs in product("+-", repeat=length):
            text = "".join(signs)
            if trace_error(text) is None:
                found.append(text)
    return found


def long_traces(many, steps=1000):
    """Return some traces of this many steps, the same ones at each call."""
    source = random.Random(20)
    found = []
    for turn in range(many):
        likely = source.choice((0.3, 0.5, 0.6, 0.9))
        text, depth = "", 0
        while len(text) < steps:
            rises = depth == 0 or source.random() < likely
            text += "+" if rises else "-"
            depth += 1 if rises else -1
        found.append(text)
    return found


def closed_traces(pushes):
    """Return all closed traces with so many pushes."""
    return ["".join(signs) for signs in closed_signs(pushes, 0)]


def closed_signs(pushes, depth):
    if pushes == 0 and depth == 0:
        return [()]
    found = []
    if pushes > 0:
        found += [("+", *signs) for signs in closed_signs(pushes - 1, depth + 1)]
    if depth > 0:
        found += [("-", *signs) for signs in closed_signs(pushes, depth - 1)]
    return found


def trees_with(calls):
    """Return all trees with so many calls."""
    if calls == 0:
        return [[]]
    found = []
    for tree in trees_with(calls - 1):
        found += [[*tree, level] for level in range(1, (tree[-1] if tree else 0) + 2)]
    return found


def trees_up_to(calls):
    return [tree for many in range(calls + 1) for tree in trees_with(many)]


def long_trees(many, calls=400):
    """Return some trees with so many calls, the same ones at each call."""
    source = random.Random(11)
    found = []
    for turn in range(many):
        tree = [1]
        while len(tree) < calls:
            least = max(1, tree[-1] - source.choice((0, 1, 3, calls)))
            tree.append(source.randint(least, tree[-1] + 1))
        found.append(tree)
    return found


def orders_by_definition(tree):
    """Return all orders of a tree, straight from point [11], each one once and as a tuple."""
    calls = []
    for level in tree:
        if level == 1:
            calls.append([])
        else:
            calls[-1].append(level - 1)
    within = [[(1, *[level + 1 for level in inner]) for inner in orders_by_definition(call)] for call in calls]
    found = set()
    for sequence in set(permutations([tuple(call) for call in within])):
        found |= {sum(choice, ()) for choice in product(*sequence)}
    return found


def depth_at(trace, moment):
    return trace[:moment].count("+") - trace[:moment].count("-")


def levels_by_definition(trace, top):
    return [max(depth_at(trace, moment) - top, 0) for moment in range(len(trace) + 1)]


def calls_by_definition(trace, top):
    """Return the calls straight from point [9]."""
    depths = [depth_at(trace, moment) for moment in range(len(trace) + 1)]
    levels = [max(depth - top, 0) for depth in depths]
    found = []
    for push, sign in enumerate(trace):
        own = depths[push + 1]
        if sign == "-" or own <= top:
            continue
        pop = next((step for step in range(push + 1, len(trace)) if depths[step + 1] < own), None)
        last = len(trace) if pop is None else pop
        greatest = max(levels[push + 1:last + 1])
        found.append((push, pop, own - top, greatest - (own - top) + 1))
    return found


def row_by_definition(trace, top):
    heights = [call[3] for call in calls_by_definition(trace, top)]
    return [heights.count(height) for height in range(1, max(heights, default=0) + 1)]


def trace_error(value):
    """Return what point [3] lists for this value of `trace`: None, or the class and the field."""
    if type(value) is not str or len(value) > 1000:
        return (InvalidTrace, None)
    for index, sign in enumerate(value):
        ahead = value[:index + 1]
        if sign not in "+-" or ahead.count("-") > ahead.count("+"):
            return (InvalidTrace, index)
    return None


def registers_error(value):
    if type(value) is int and 1 <= value <= MOST_REGISTERS:
        return None
    return (InvalidRegisters,)


def top_error(value, most=1000):
    if type(value) is int and 0 <= value <= most:
        return None
    return (InvalidTop,)


def number_error(value, least=0, most=None):
    if type(value) is int and value >= least and (most is None or value <= most):
        return None
    return (InvalidNumber,)


def row_error(value):
    if type(value) is not list or len(value) > 1000:
        return (InvalidRow, None)
    for index, item in enumerate(value):
        if type(item) is not int or item < 1 or item > min([item, *value[:index][-1:]]):
            return (InvalidRow, index)
    return None


def tree_error(value):
    if type(value) is not list or len(value) > 400:
        return (InvalidTree, None)
    for index, item in enumerate(value):
        if type(item) is not int or item < 1 or item > (value[index - 1] + 1 if index else 1):
            return (InvalidTree, index)
    return None


def ends_by_definition(trace, registers, top):
    """Return the ends at all moments, straight from points [5] to [7]."""
    found = []
    for moment in range(len(trace) + 1):
        behind = trace[:moment]
        level = max(behind.count("+") - behind.count("-") - top, 0)
        found.append((max(level - (registers - top), 0), level))
    return found


def plan_error(trace, registers, top, value):
    ends = ends_by_definition(trace, registers, top)
    if type(value) is not list or len(value) != len(ends):
        return (InvalidPlan, None)
    if any(type(number) is not int for number in value):
        return (InvalidPlan, None)
    for index, number in enumerate(value):
        if number not in range(ends[index][0], ends[index][1] + 1):
            return (InvalidPlan, index)
    return None


def first_error(errors):
    """Return the first one that is not None."""
    for error in errors:
        if error is not None:
            return error
    return None


def raised(function, *args, **more):
    """Return the class and the fields of the error that a call raises, or None."""
    try:
        function(*args, **more)
    except SpillError as error:
        return (type(error), *vars(error).values())
    return None


def returns_new_list(function, *args):
    """Return whether a returned list that is changed leaves the next one as the first one was."""
    first = function(*args)
    kept = list(first)
    first.append("more")
    first[0] = "other"
    return function(*args) == kept
