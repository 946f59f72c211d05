"""Plans: how many words are in memory at each moment, and how many words must be moved."""

from lazyspill.checks import check_machine, check_trace, is_list_of_integers
from lazyspill.errors import InvalidMoments, InvalidPlan
from lazyspill.traces import depths_of, levels_above


def ends_of(trace, registers, top):
    """Return the list of the tuples (lower end, upper end) at all moments."""
    check_trace(trace)
    check_machine(registers, top)
    room = registers - top
    levels = levels_above(depths_of(trace), top)
    return [(max(0, level - room), level) for level in levels]


def check_plan(ends, plan):
    """Raise InvalidPlan unless a value is a plan for these ends."""
    if not is_list_of_integers(plan) or len(plan) != len(ends):
        raise InvalidPlan(None)
    for index, (lower, upper) in enumerate(ends):
        if not lower <= plan[index] <= upper:
            raise InvalidPlan(index)


def is_plan(trace, registers, top, value):
    """Return whether any value is a plan for the trace and the machine."""
    ends = ends_of(trace, registers, top)
    try:
        check_plan(ends, value)
    except InvalidPlan:
        return False
    return True


def rises_of(plan):
    """Return the list of how much the number in memory rises at each step, below 0 if it falls."""
    return [after - before for before, after in zip(plan, plan[1:])]


def counts_of(trace, registers, top, plan):
    """Return the tuple (written, read, traps) of a plan."""
    check_plan(ends_of(trace, registers, top), plan)
    rises = [rise for rise in rises_of(plan) if rise != 0]
    written = sum([rise for rise in rises if rise > 0])
    read = sum([-rise for rise in rises if rise < 0])
    return (written, read, len(rises))


def lazy_plan(trace, registers, top):
    """Return the lazy plan."""
    plan = []
    number = 0
    for lower, upper in ends_of(trace, registers, top):
        number = min(max(number, lower), upper)
        plan.append(number)
    return plan


def check_moments(last, moments):
    """Raise InvalidMoments unless a value is an ascending list of moments up to the last one."""
    if not is_list_of_integers(moments):
        raise InvalidMoments(None)
    ahead = -1
    for index, moment in enumerate(moments):
        if not ahead < moment <= last:
            raise InvalidMoments(index)
        ahead = moment


def moved_by(trace, registers, top, moments):
    """Return the sum for these moments; each plan moves at least as many words."""
    ends = ends_of(trace, registers, top)
    check_moments(len(trace), moments)
    total = 0
    # Ahead of the first moment stands the empty stack.
    lower_ahead, upper_ahead = 0, 0
    for index, moment in enumerate(moments):
        lower, upper = ends[moment]
        if index % 2 == 0:
            total += lower - upper_ahead
        else:
            total += lower_ahead - upper
        lower_ahead, upper_ahead = lower, upper
    return total


def turning_moments(trace, registers, top):
    """Return the moments that show that no plan moves fewer words than the lazy plan."""
    moments = []
    writing = False
    for step, rise in enumerate(rises_of(lazy_plan(trace, registers, top))):
        if rise == 0:
            continue
        # A further trap of the same kind takes the place of the one ahead.
        if moments and writing == (rise > 0):
            moments.pop()
        moments.append(step + 1)
        writing = rise > 0
    return moments
