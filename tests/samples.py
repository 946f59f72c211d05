"""Traces, values and expected errors that several tests share."""

import random
from itertools import product

from lazyspill.errors import InvalidPlan, InvalidRegisters, InvalidTop, InvalidTrace, NotClosed, SpillError

HILL = "+++++----++++-----"
SLOPE = "+++++---"
MOST_REGISTERS = 10 ** 30 - 1

# A few values of each kind that may be passed where any value is accepted.
ANY_VALUES = (
    None, True, False, -1, 0, 1, 2, 3, 1000, 1001, MOST_REGISTERS, 10 ** 30, 10 ** 60, -(10 ** 30),
    "", "+", "++-", "-", "+--", "+x", "+-?-", " ", "3", "lazy", "+" * 1000, "+" * 1001, "-" * 1001,
    [], [0], [0, 0], [0, 1], [0, 0, 0, 0], [0, True, 0, 0], [False, 0, 0, 0], [0, 1, 9, 0], [-1, 0, 0, 0],
    [0, 0, 0, 0, 0], [0, None, 1, 0], ["+"], [[0]], [0, (0,), 0, 0], [0] * 1005,
    (), (0,), (0, 0, 0, 0), ("lazy",), (None, [1]), {}, {"trace": "++-"}, {"a": [1, (2, {"b": None})]},
    SpillError("text"), InvalidTrace(0), NotClosed("+"),
)


def traces_up_to(steps):
    """Return all traces of at most so many steps."""
    found = []
    for length in range(steps + 1):
        for signs in product("+-", repeat=length):
            text = "".join(signs)
            if trace_error(text) is None:
                found.append(text)
    return found


def long_traces(many, steps=1000):
    """Return some traces of this many steps, the same ones at each call."""
    source = random.Random(20)
    found = []
    for turn in range(many):
        likely = source.choice((0.3, 0.5, 0.6, 0.9))
        text, depth = "", 0
        while len(text) < steps:
            rises = depth == 0 or source.random() < likely
            text += "+" if rises else "-"
            depth += 1 if rises else -1
        found.append(text)
    return found


def trace_error(value):
    """Return what point [3] lists for this value of `trace`: None, or the class and the field."""
    if type(value) is not str or len(value) > 1000:
        return (InvalidTrace, None)
    for index, sign in enumerate(value):
        ahead = value[:index + 1]
        if sign not in "+-" or ahead.count("-") > ahead.count("+"):
            return (InvalidTrace, index)
    return None


def registers_error(value):
    if type(value) is int and 1 <= value <= MOST_REGISTERS:
        return None
    return (InvalidRegisters,)


def top_error(value, most=1000):
    if type(value) is int and 0 <= value <= most:
        return None
    return (InvalidTop,)


def ends_by_definition(trace, registers, top):
    """Return the ends at all moments, straight from points [5] to [7]."""
    found = []
    for moment in range(len(trace) + 1):
        behind = trace[:moment]
        level = max(behind.count("+") - behind.count("-") - top, 0)
        found.append((max(level - (registers - top), 0), level))
    return found


def plan_error(trace, registers, top, value):
    ends = ends_by_definition(trace, registers, top)
    if type(value) is not list or len(value) != len(ends):
        return (InvalidPlan, None)
    if any(type(number) is not int for number in value):
        return (InvalidPlan, None)
    for index, number in enumerate(value):
        if number not in range(ends[index][0], ends[index][1] + 1):
            return (InvalidPlan, index)
    return None


def first_error(errors):
    """Return the first one that is not None."""
    for error in errors:
        if error is not None:
            return error
    return None


def raised(function, *args, **more):
    """Return the class and the fields of the error that a call raises, or None."""
    try:
        function(*args, **more)
    except SpillError as error:
        return (type(error), *vars(error).values())
    return None
