"""Traces: their depths and levels, and the calls that they make."""

from lazyspill.checks import MOST_TOP, check_top, checked_depths
from lazyspill.errors import InvalidTrace, NotClosed


def is_trace(value):
    """Return whether any value is a trace."""
    try:
        checked_depths(value)
    except InvalidTrace:
        return False
    return True


def depths_of(trace):
    """Return the list of the depths at all moments."""
    return checked_depths(trace)


def levels_above(depths, top):
    """Return the list of the levels for a list of depths; `top` is any integer from 0 on."""
    return [depth - top if depth > top else 0 for depth in depths]


def levels_of(trace, top):
    """Return the list of the levels at all moments."""
    depths = checked_depths(trace)
    check_top(top, MOST_TOP)
    return levels_above(depths, top)


def call_levels_of(levels):
    """Return the list of the levels of the calls in the order of their pushes, for the levels at all moments."""
    return [after for before, after in zip(levels, levels[1:]) if before < after]


def pops_of(levels):
    """Return a dict from the step that pushes a call to the step that pops it, without the open calls."""
    pops = {}
    unpopped = []
    for step in range(len(levels) - 1):
        if levels[step] < levels[step + 1]:
            unpopped.append(step)
        elif levels[step] > levels[step + 1]:
            pops[unpopped.pop()] = step
    return pops


def heights_of(levels):
    """Return the list of the heights of calls, for the list of their levels in the order of their pushes."""
    heights = []
    # From the last call on: for each level, the greatest height of the calls so far that are
    # directly in a call still to come.
    inner = [0] * (max(levels, default=0) + 2)
    for level in levels[::-1]:
        height = inner[level + 1] + 1
        inner[level + 1] = 0
        if inner[level] < height:
            inner[level] = height
        heights.append(height)
    return heights[::-1]


def calls_of(trace, top):
    """Return the list of the calls as tuples (push, pop or None, level, height) in the order of their pushes."""
    levels = levels_of(trace, top)
    pops = pops_of(levels)
    pushes = [step for step in range(len(trace)) if levels[step] < levels[step + 1]]
    call_levels = call_levels_of(levels)
    heights = heights_of(call_levels)
    return [
        (push, pops.get(push), level, height)
        for push, level, height in zip(pushes, call_levels, heights)
    ]


def open_heights_of(levels):
    """Return the list of the heights of the open calls at the end, for the levels at all moments."""
    heights = []
    lowest = greatest = levels[-1]
    # From the end on: the first level below all behind it stands ahead of the push of an open call.
    for level in levels[::-1]:
        if level < lowest:
            heights.append(greatest - level)
            lowest = level
        elif level > greatest:
            greatest = level
    return heights[::-1]


def open_heights(trace, top):
    """Return the list of the heights of the open calls at the end, the lowest call first."""
    return open_heights_of(levels_of(trace, top))


def turned(trace):
    """Return the closed trace with its steps in the opposite sequence, and `+` and `-` exchanged."""
    if checked_depths(trace)[-1] > 0:
        raise NotClosed("the trace leaves words on the stack")
    return "".join(["-" if step == "+" else "+" for step in trace[::-1]])
