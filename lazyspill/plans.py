"""Plans: how many words are in memory at each moment, and how many words must be moved."""

from lazyspill.checks import check_machine, checked_depths, is_list_of_integers
from lazyspill.errors import InvalidMoments, InvalidPlan


def less_up_to(depth, number):
    """Return the list of the depths from 0 up to a depth, each one less a number, or 0 if that is below 0."""
    least = min(number, depth)
    return [0] * least + list(range(depth + 1 - least))


def ends_at(depths, registers, top):
    """Return the list of the tuples (lower end, upper end) at some depths."""
    # At once for all depths that there can be, which is faster than one after another.
    deepest = max(depths, default=0)
    ends = list(zip(less_up_to(deepest, registers), less_up_to(deepest, top)))
    return [ends[depth] for depth in depths]


def ends_of(trace, registers, top):
    """Return the list of the tuples (lower end, upper end) at all moments."""
    depths = checked_depths(trace)
    check_machine(registers, top)
    return ends_at(depths, registers, top)


def check_plan(depths, registers, top, plan):
    """Raise InvalidPlan unless a value is a plan for the depths at all moments and a machine."""
    if not is_list_of_integers(plan) or len(plan) != len(depths):
        raise InvalidPlan(None)
    for index, number in enumerate(plan):
        # At most all registers hold words, and at least the topmost ones, unless all words are in registers.
        held = depths[index] - number
        if held > registers or (held < top and number > 0) or number < 0:
            raise InvalidPlan(index)


def is_plan(trace, registers, top, value):
    """Return whether any value is a plan for the trace and the machine."""
    depths = checked_depths(trace)
    check_machine(registers, top)
    try:
        check_plan(depths, registers, top, value)
    except InvalidPlan:
        return False
    return True


def counts_along(plan):
    """Return the tuple (written, read, traps) for the numbers of words in memory at all moments."""
    written = traps = ahead = 0
    for number in plan:
        if number != ahead:
            traps += 1
            if number > ahead:
                written += number - ahead
            ahead = number
    # What was written and not read is in memory.
    return (written, written - ahead, traps)


def counts_of(trace, registers, top, plan):
    """Return the tuple (written, read, traps) of a plan."""
    depths = checked_depths(trace)
    check_machine(registers, top)
    check_plan(depths, registers, top, plan)
    return counts_along(plan)


def lazy_along(depths, registers, top, number):
    """Return the numbers of the lazy plan for some depths side by side, with a number ahead of them."""
    plan = []
    for depth in depths:
        if number < depth - registers:
            number = depth - registers
        elif number > depth - top:
            number = depth - top if depth > top else 0
        plan.append(number)
    return plan


def lazy_plan(trace, registers, top):
    """Return the lazy plan."""
    depths = checked_depths(trace)
    check_machine(registers, top)
    return lazy_along(depths, registers, top, 0)


def check_moments(last, moments):
    """Raise InvalidMoments unless a value is an ascending list of moments up to the last one."""
    if not is_list_of_integers(moments):
        raise InvalidMoments(None)
    ahead = -1
    for index, moment in enumerate(moments):
        if not ahead < moment <= last:
            raise InvalidMoments(index)
        ahead = moment


def moved_by(trace, registers, top, moments):
    """Return the sum for these moments; each plan moves at least as many words."""
    depths = checked_depths(trace)
    check_machine(registers, top)
    check_moments(len(trace), moments)
    total = 0
    # Ahead of the first moment stands the empty stack.
    lower_ahead, upper_ahead = 0, 0
    high = True
    for lower, upper in ends_at([depths[moment] for moment in moments], registers, top):
        total += lower - upper_ahead if high else lower_ahead - upper
        lower_ahead, upper_ahead = lower, upper
        high = not high
    return total


def turning_moments(trace, registers, top):
    """Return the moments that show that no plan moves fewer words than the lazy plan."""
    moments = []
    writing = False
    ahead = 0
    for moment, number in enumerate(lazy_plan(trace, registers, top)):
        if number == ahead:
            continue
        # A further trap of the same kind takes the place of the one ahead.
        if moments and writing == (number > ahead):
            moments.pop()
        moments.append(moment)
        writing = number > ahead
        ahead = number
    return moments
