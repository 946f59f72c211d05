"""Rows: how many calls have which height, and how many traces have which row."""

from math import comb

from lazyspill.checks import MOST_STEPS, MOST_TOP, check_number, check_top, is_integer
from lazyspill.errors import InvalidRow, TooLong
from lazyspill.plans import lazy_plan
from lazyspill.traces import call_levels_of, heights_of, levels_of

MOST_ITEMS = 1000
MOST_PUSHES = 200


def check_row(row):
    """Raise InvalidRow unless a value is a row."""
    if not isinstance(row, list) or len(row) > MOST_ITEMS:
        raise InvalidRow(None)
    for index, item in enumerate(row):
        if not is_integer(item) or item < 1 or (index > 0 and item > row[index - 1]):
            raise InvalidRow(index)


def is_row(value):
    """Return whether any value is a row."""
    try:
        check_row(value)
    except InvalidRow:
        return False
    return True


def row_along(levels):
    """Return the row for the levels at all moments."""
    heights = heights_of(call_levels_of(levels))
    row = [0] * max(heights, default=0)
    for height in heights:
        row[height - 1] += 1
    return row


def row_of(trace, top):
    """Return the row: how many calls have the height 1, the height 2 and so on."""
    return row_along(levels_of(trace, top))


def written_by(row, room):
    """Return how many calls of a row have a height above the room."""
    check_row(row)
    check_number(room, 0, None)
    return sum(row[room:])


def written_along(trace, registers, top):
    """Return the list of the tuples (written, read) of the lazy plan up to each moment."""
    along = []
    written = 0
    ahead = 0
    for number in lazy_plan(trace, registers, top):
        if number > ahead:
            written += number - ahead
        # What was written and not read is in memory.
        along.append((written, written - number))
        ahead = number
    return along


def trace_of_row(row, top):
    """Return a closed trace with this row, as short as possible."""
    check_row(row)
    check_top(top, MOST_TOP)
    if not row:
        return ""
    if 2 * (sum(row) + top) > MOST_STEPS:
        raise TooLong(MOST_STEPS)
    # A run of pushes that are popped at once makes one call of each height up to its length.
    runs = []
    for index, (item, behind) in enumerate(zip(row, row[1:] + [0])):
        height = index + 1
        runs.append(("+" * height + "-" * height) * (item - behind))
    return "+" * top + "".join(runs) + "-" * top


def count_traces(row):
    """Return how many closed traces have this row for the top 0."""
    check_row(row)
    ways = 1
    later = sum(row)
    for item, behind in zip(row, row[1:] + [0]):
        later -= item
        between = 2 * later - behind + 1
        ways *= comb(item + between - 1, behind + between - 1)
    return ways


def quiet_counts(pushes, room):
    """Return a list: how many closed traces with 0, 1 and so on up to so many pushes have no depth above the room."""
    # A trace with so many pushes cannot go deeper.
    highest = min(room, pushes)
    # How many traces of the present length end at each depth.
    ways = [1] + [0] * highest
    counts = [1]
    for _ in range(pushes):
        for _ in range(2):
            ways = [shallower + deeper for shallower, deeper in zip([0] + ways, ways[1:] + [0])]
        counts.append(ways[0])
    return counts


def count_quiet(pushes, room):
    """Return how many closed traces with so many pushes have no call with a height above the room."""
    check_number(pushes, 0, MOST_PUSHES)
    check_number(room, 0, None)
    return quiet_counts(pushes, room)[pushes]


def sum_written(pushes, room):
    """Return how many calls with a height above the room all closed traces with so many pushes have."""
    check_number(pushes, 0, MOST_PUSHES)
    check_number(room, 0, None)
    every = quiet_counts(pushes, pushes)
    # Without a room each call is above it.
    quiet = quiet_counts(pushes, room - 1) if room > 0 else [0] * pushes
    total = 0
    # A call is above the room if the calls in it make a trace that is not quiet for a room less by 1.
    # Without these it is one of the calls "+-" of a trace with the pushes that are left.
    for inner in range(pushes):
        left = pushes - inner
        total += (every[inner] - quiet[inner]) * comb(2 * left - 1, left)
    return total
