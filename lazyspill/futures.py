"""Futures: what the lazy plan does behind a trace, and which traces are alike."""

from lazyspill.checks import MOST_STEPS, MOST_TOP, check_machine, check_top, checked_depths, depths_along
from lazyspill.errors import InvalidFuture
from lazyspill.plans import lazy_along
from lazyspill.traces import levels_above, open_heights_of


def word_numbers_at(depths, top):
    """Return for each word, the lowest one first, the greatest number of registers with which it is in memory."""
    heights = open_heights_of(levels_above(depths, top))
    return [height + top - 1 for height in heights] + [0] * min(top, depths[-1])


def word_numbers(trace, top):
    """Return for each word, the lowest one first, the greatest number of registers with which it is in memory."""
    depths = checked_depths(trace)
    check_top(top, MOST_TOP)
    return word_numbers_at(depths, top)


def checked_future(future, depth):
    """Return the list of the depths along a future, from a depth on, or raise InvalidFuture."""
    if not isinstance(future, str) or len(future) > MOST_STEPS:
        raise InvalidFuture(None)
    depths = depths_along(future, depth)
    if len(depths) <= len(future):
        raise InvalidFuture(len(depths) - 1)
    return depths


def moved_behind(trace, registers, top, future):
    """Return for each step of a future how many words the lazy plan writes, or reads as a number below 0."""
    depths = checked_depths(trace)
    check_machine(registers, top)
    future_depths = checked_future(future, depths[-1])
    number = lazy_along(depths, registers, top, 0)[-1]
    numbers = lazy_along(future_depths, registers, top, number)
    return [after - before for before, after in zip(numbers, numbers[1:])]


def are_alike_at(one_depths, other_depths, top):
    """Return whether traces with these depths at all moments are alike for all registers."""
    if one_depths[-1] != other_depths[-1]:
        return False
    one_heights = open_heights_of(levels_above(one_depths, top))
    return one_heights == open_heights_of(levels_above(other_depths, top))


def are_alike(one, other, top):
    """Return whether two traces are alike for all registers."""
    one_depths = checked_depths(one)
    other_depths = checked_depths(other)
    check_top(top, MOST_TOP)
    return are_alike_at(one_depths, other_depths, top)


# What the lazy plan does later depends on its state alone: the tuple (words in registers, words in memory).


def states_of(one, other, registers, top):
    """Return the states of the lazy plan behind two traces."""
    one_depths = checked_depths(one)
    other_depths = checked_depths(other)
    check_machine(registers, top)
    states = []
    for depths in (one_depths, other_depths):
        number = lazy_along(depths, registers, top, 0)[-1]
        states.append((depths[-1] - number, number))
    return states


def alike_with(one, other, registers, top):
    """Return whether two traces are alike on a machine."""
    (one_held, one_number), (other_held, other_number) = states_of(one, other, registers, top)
    # Without words that must be in registers, a word in memory is read only when there is none in registers.
    return one_held == other_held and (top == 0 or one_number == other_number)


def reads_at(state, top, pop):
    """Return whether the lazy plan reads a word at a pop, the first one being 1, if only pops follow."""
    held, number = state
    return held - top < pop <= held - top + number


def parting_pops(one_state, other_state, top):
    """Return the least number of pops at the last of which only one of two machines reads, or None."""
    # Beyond the words of one of them, they have no further step in common.
    common = min(sum(one_state), sum(other_state))
    turns = []
    for held, number in (one_state, other_state):
        turns.extend([held - top + 1, held - top + number + 1])
    for pop in sorted(turns):
        if pop <= common and reads_at(one_state, top, pop) != reads_at(other_state, top, pop):
            return pop
    return None


def parting_pushes(one_state, other_state, registers):
    """Return the least number of pushes at the last of which only one of two machines writes, or None."""
    one_held, _ = one_state
    other_held, _ = other_state
    if one_held == other_held:
        return None
    return registers - max(one_held, other_held) + 1


def shortest_parting(one_state, other_state, registers, top):
    """Return the shortest future in which two machines differ as a tuple (length, sign), or None."""
    pushes = parting_pushes(one_state, other_state, registers)
    pops = parting_pops(one_state, other_state, top)
    if pops is not None and (pushes is None or pops < pushes):
        return (pops, "-")
    return None if pushes is None else (pushes, "+")


def parting_with(one, other, registers, top):
    """Return the shortest future in which the lazy plan moves other words behind two traces, or None."""
    one_state, other_state = states_of(one, other, registers, top)
    found = shortest_parting(one_state, other_state, registers, top)
    if found is None:
        return None
    length, sign = found
    return sign * length


def states_by_room(depths, top, rooms):
    """Return the list of the states of the lazy plan at the end for the rooms 0, 1 and so on, so many ones."""
    heights = open_heights_of(levels_above(depths, top))
    states = []
    number = len(heights)
    for room in range(rooms):
        # The words in memory are the open calls with a height above the room; the heights fall.
        while number > 0 and heights[number - 1] <= room:
            number -= 1
        states.append((depths[-1] - number, number))
    return states


def parting_at(one_depths, other_depths, top):
    """Return the tuple (length, sign, registers) of the parting of traces with these depths, or None."""
    if are_alike_at(one_depths, other_depths, top):
        return None
    least = max(top, 1)
    # With as many registers as there were words, all words are in registers; more of them only put off the writing.
    behind = max(least, max(one_depths), max(other_depths)) + 1
    one_states = states_by_room(one_depths, top, behind - top)
    other_states = states_by_room(other_depths, top, behind - top)
    best = None
    for registers in range(least, behind):
        found = shortest_parting(one_states[registers - top], other_states[registers - top], registers, top)
        # Pushes come before pops of the same length: the sign "+" is less than "-".
        if found is not None and (best is None or (*found, registers) < best):
            best = (*found, registers)
    return best


def parting(one, other, top):
    """Return the tuple (shortest future that tells two traces apart, least number of registers), or None."""
    one_depths = checked_depths(one)
    other_depths = checked_depths(other)
    check_top(top, MOST_TOP)
    found = parting_at(one_depths, other_depths, top)
    if found is None:
        return None
    length, sign, registers = found
    return (sign * length, registers)
