"""Rounds: what a trace needs that is repeated many times."""

from lazyspill.checks import check_machine, check_number, checked_depths
from lazyspill.traces import calls_of, levels_above
from lazyspill.traps import traps_along, turns_of

MOST_TIMES = 10 ** 30 - 1


def rounds_below(depth, rise, times, top):
    """Return in how many rounds a depth of the first one, greater by rise in each further one, is at most top."""
    if depth > top:
        return 0
    if rise == 0:
        return times
    return min(times, (top - depth) // rise + 1)


def words_read(calls, rise, times, registers, top):
    """Return how many calls that are popped in their round have a height above the room, in all rounds."""
    # A repeated trace pops no word of an earlier round.
    total = 0
    for _, pop, depth, height in calls:
        if pop is not None and height > registers - top:
            total += times - rounds_below(depth, rise, times, top)
    return total


def words_left(calls, rise, times, registers, top):
    """Return how many calls that are open behind the last round have a height above the room."""
    if rise == 0:
        return 0
    begin = (times - 1) * rise
    # The last round goes deepest, so it tells the heights of the calls of all rounds ahead.
    deepest = begin + max([depth for _, _, depth, _ in calls])
    left = max(min(begin, deepest - (registers - top)) - top, 0)
    for _, pop, depth, height in calls:
        if pop is None and begin + depth > top and height > registers - top:
            left += 1
    return left


def words_in_rounds(trace, times, registers, top):
    """Return the tuple (written, read) of the lazy plan for a trace that is repeated so many times."""
    calls = calls_of(trace, 0)
    check_number(times, 1, MOST_TIMES)
    check_machine(registers, top)
    rise = len([pop for _, pop, _, _ in calls if pop is None])
    read = words_read(calls, rise, times, registers, top)
    return (read + words_left(calls, rise, times, registers, top), read)


def traps_of_like_rounds(turns, rise, times, room, block):
    """Return the fewest traps in so many rounds, each of which turns at these levels and ends higher by rise.

    The levels, and the least and the greatest one of the present block, are seen from where a round begins.
    """
    least, greatest = block
    traps = 0
    # There are few different blocks at the ends of the rounds, so soon there is one again.
    totals = []
    known = {}
    while len(totals) < times and (least, greatest) not in known:
        known[(least, greatest)] = len(totals)
        totals.append(traps)
        more, least, greatest = traps_along(turns, room, least, greatest)
        least -= rise
        greatest -= rise
        traps += more
    if len(totals) == times:
        return traps
    first = known[(least, greatest)]
    turn = len(totals) - first
    left = times - len(totals)
    return traps + left // turn * (traps - totals[first]) + totals[first + left % turn] - totals[first]


def traps_in_rounds(trace, times, registers, top):
    """Return the fewest traps for a trace that is repeated so many times."""
    depths = checked_depths(trace)
    check_number(times, 1, MOST_TIMES)
    check_machine(registers, top)
    rise = depths[-1]
    room = registers - top
    # At first all levels are 0.
    done = rounds_below(max(depths), rise, times, top)
    traps = 0
    least = greatest = 0
    # Then come rounds with some levels that are 0 only because there are none below.
    while done < times and 0 < rise and done * rise < top:
        levels = levels_above([depth + done * rise for depth in depths], top)
        more, least, greatest = traps_along(turns_of(levels), room, least, greatest)
        traps += more
        done += 1
    base = max(done * rise - top, 0)
    turns = turns_of(levels_above(depths, top) if rise == 0 else depths)
    return traps + traps_of_like_rounds(turns, rise, times - done, room, (least - base, greatest - base))
