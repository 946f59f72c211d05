"""Fits: the numbers of registers with which the lazy plan writes observed numbers of words."""

from lazyspill.checks import (
    MOST_REGISTERS, MOST_STEPS, MOST_TOP, check_number, check_top, checked_depths, is_integer,
)
from lazyspill.errors import InvalidChoices, InvalidCounts, InvalidTrace, TooLong
from lazyspill.traces import call_levels_of, heights_of

MOST_COUNTS = 50
MOST_OF_TOP = 100
MOST_CHOICES = 20


def checked_counts(counts):
    """Return counts with the depths instead of the traces, or raise InvalidCounts unless a value is counts."""
    if not isinstance(counts, list) or not 1 <= len(counts) <= MOST_COUNTS:
        raise InvalidCounts(None)
    found = []
    for index, item in enumerate(counts):
        if not isinstance(item, tuple) or len(item) != 2 or not is_integer(item[1]) or item[1] < 0:
            raise InvalidCounts(index)
        trace, number = item
        try:
            depths = checked_depths(trace)
        except InvalidTrace:
            raise InvalidCounts(index) from None
        found.append((depths, number))
    return found


def fitting_rooms(depths, number, most):
    """Return for each top from 0 to most the tuple (least, greatest) of the rooms with so many written words.

    The greatest one is None if there is none; instead of a tuple there is None if no room fits.
    """
    levels = call_levels_of(depths)
    heights = heights_of(levels)
    row = [0] * max(heights, default=0)
    by_level = {}
    for level, height in zip(levels, heights):
        row[height - 1] += 1
        by_level.setdefault(level, []).append(height)
    found = []
    # The least room with which at most so many words are written; it never rises with top.
    room = len(row)
    written = 0
    for top in range(most + 1):
        # The calls up to this depth are no calls any more.
        for height in by_level.get(top, []):
            row[height - 1] -= 1
            if height > room:
                written -= 1
        while room > 0 and written + row[room - 1] <= number:
            room -= 1
            written += row[room]
        if number == 0:
            found.append((room, None))
        else:
            found.append((room, room) if written == number else None)
    return found


def shared_registers(rooms, top):
    """Return the tuple (least, greatest) of the numbers of registers with these rooms and this top, or None."""
    least = max(top, 1)
    greatest = None
    for pair in rooms:
        if pair is None:
            return None
        low, high = pair
        least = max(least, low + top)
        if high is not None and (greatest is None or high + top < greatest):
            greatest = high + top
    if greatest is not None and greatest < least:
        return None
    return (least, greatest)


def registers_for(counts, top):
    """Return the tuple (least, greatest) of the numbers of registers that fit the counts, or None."""
    check_top(top, MOST_TOP)
    rooms = [fitting_rooms(depths, number, top)[top] for depths, number in checked_counts(counts)]
    return shared_registers(rooms, top)


def machines_for(counts, most):
    """Return the list of the tuples (top, least, greatest) of the machines that fit the counts."""
    check_number(most, 0, MOST_OF_TOP)
    columns = [fitting_rooms(depths, number, most) for depths, number in checked_counts(counts)]
    found = []
    for top in range(most + 1):
        pair = shared_registers([column[top] for column in columns], top)
        if pair is not None:
            found.append((top, *pair))
    return found


def check_choices(top, choices):
    """Raise InvalidChoices unless a value is an ascending list of numbers of registers for this top."""
    if not isinstance(choices, list) or not 2 <= len(choices) <= MOST_CHOICES:
        raise InvalidChoices(None)
    ahead = max(top, 1) - 1
    for index, registers in enumerate(choices):
        if not is_integer(registers) or not ahead < registers <= MOST_REGISTERS:
            raise InvalidChoices(index)
        ahead = registers


def telling_trace(top, choices):
    """Return a trace on which the lazy plan writes another number of words for each of these numbers of registers."""
    check_top(top, MOST_TOP)
    check_choices(top, choices)
    # Each register more lets fewer words be written until there are none, so only with the greatest
    # number of registers there may be none. Then the depth must be above the one ahead of it.
    steps = choices[-2] + 1
    if steps > MOST_STEPS:
        raise TooLong(MOST_STEPS)
    return "+" * steps
