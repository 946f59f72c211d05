"""Traps: how few steps must move words, and why no plan has fewer of them."""

from lazyspill.checks import check_machine, checked_depths, is_integer, is_list_of_integers
from lazyspill.errors import InvalidBlocks
from lazyspill.plans import ends_of
from lazyspill.traces import levels_above, levels_of


def begins_of(ends):
    """Return the list of the moments at which the blocks begin, each block as long as possible."""
    begins = [0]
    # The common numbers of the present block are those from least to greatest.
    least, greatest = ends[0]
    for moment, (lower, upper) in enumerate(ends):
        if lower > least:
            least = lower
        if upper < greatest:
            greatest = upper
        if least > greatest:
            begins.append(moment)
            least, greatest = lower, upper
    return begins


def common_numbers(ends, begins):
    """Return the tuples (least, greatest) of the common numbers of the groups that begin at these moments."""
    found = []
    for begin, behind in zip(begins, begins[1:] + [len(ends)]):
        group = ends[begin:behind]
        found.append((max([lower for lower, upper in group]), min([upper for lower, upper in group])))
    return found


def plan_of_groups(ends, begins, commons):
    """Return the plan with one number in each group, the common one that is nearest to the number ahead."""
    plan = []
    number = 0
    for begin, behind, (least, greatest) in zip(begins, begins[1:] + [len(ends)], commons):
        number = min(max(number, least), greatest)
        plan.extend([number] * (behind - begin))
    return plan


def blocks_of(trace, registers, top):
    """Return the list of the blocks as tuples (first moment, last moment)."""
    begins = begins_of(ends_of(trace, registers, top))
    behinds = begins[1:] + [len(trace) + 1]
    return [(begin, behind - 1) for begin, behind in zip(begins, behinds)]


def fewest_traps(trace, registers, top):
    """Return the fewest traps that a plan can have."""
    return len(begins_of(ends_of(trace, registers, top))) - 1


def best_plan(trace, registers, top):
    """Return a plan with the fewest traps and the fewest written, read and moved words."""
    ends = ends_of(trace, registers, top)
    begins = begins_of(ends)
    return plan_of_groups(ends, begins, common_numbers(ends, begins))


def check_begins(last, begins):
    """Raise InvalidBlocks unless a value is an ascending list of moments up to the last one that begins with 0."""
    if not is_list_of_integers(begins) or begins[:1] != [0] or begins[-1] > last:
        raise InvalidBlocks(None)
    for ahead, begin in zip(begins, begins[1:]):
        if begin <= ahead:
            raise InvalidBlocks(None)


def plan_in_blocks(trace, registers, top, begins):
    """Return the plan with one number in each of the blocks that begin at these moments."""
    ends = ends_of(trace, registers, top)
    check_begins(len(trace), begins)
    commons = common_numbers(ends, begins)
    for index, (least, greatest) in enumerate(commons):
        if least > greatest:
            raise InvalidBlocks(index)
    return plan_of_groups(ends, begins, commons)


def stretches_of(trace, registers, top):
    """Return as many stretches as the fewest traps, each of which begins at the end of the one ahead."""
    begins = begins_of(ends_of(trace, registers, top))
    # With the moment behind it, no block is a block any more.
    return list(zip(begins, begins[1:]))


def is_pair_of_moments(value, last):
    """Return whether a value is a tuple of two moments up to the last one, the first one less than the other."""
    if not isinstance(value, tuple) or len(value) != 2:
        return False
    begin, end = value
    return is_integer(begin) and is_integer(end) and 0 <= begin < end <= last


def shows_traps(trace, registers, top, value):
    """Return whether any value is a list of stretches, each of which begins at the end of the one ahead or later."""
    depths = checked_depths(trace)
    check_machine(registers, top)
    if not isinstance(value, list):
        return False
    levels = levels_above(depths, top)
    ahead = 0
    for pair in value:
        if not is_pair_of_moments(pair, len(trace)) or pair[0] < ahead:
            return False
        begin, end = pair
        stretch = levels[begin:end + 1]
        if max(stretch) - min(stretch) <= registers - top:
            return False
        ahead = end
    return True


def turns_of(levels):
    """Return the levels at which a list of levels turns from rising to falling or back, and the last one."""
    turns = []
    rising = False
    for before, after in zip(levels, levels[1:]):
        if before == after:
            continue
        if turns and rising == (after > before):
            turns.pop()
        turns.append(after)
        rising = after > before
    return turns


def traps_along(turns, room, least, greatest):
    """Return the tuple (traps, least, greatest) behind levels that turn at these ones.

    Least and greatest are the levels between which the present block has been, before and behind.
    """
    traps = 0
    for level in turns:
        # On the way each further block begins room + 1 levels behind the begin of the one ahead.
        if level > greatest:
            blocks = (level - least) // (room + 1)
            least += blocks * (room + 1)
            greatest = level
            traps += blocks
        elif level < least:
            blocks = (greatest - level) // (room + 1)
            greatest -= blocks * (room + 1)
            least = level
            traps += blocks
    return (traps, least, greatest)


def traps_between(turns, room):
    """Return the fewest traps for levels, beginning at 0, that turn at these ones."""
    traps, _, _ = traps_along(turns, room, 0, 0)
    return traps


def traps_by_room(trace, top):
    """Return the list of the fewest traps for the rooms 0, 1 and so on, up to the first one that is 0."""
    turns = turns_of(levels_of(trace, top))
    found = [traps_between(turns, 0)]
    while found[-1] > 0:
        found.append(traps_between(turns, len(found)))
    return found
