"""Trees: the calls of a closed trace, and the orders in which they can be made."""

from math import factorial

from lazyspill.checks import check_registers, is_integer
from lazyspill.errors import InvalidTree, NotClosed, TooLong
from lazyspill.traces import call_levels_of, depths_of, heights_of

MOST_CALLS = 400


def check_tree(tree):
    """Raise InvalidTree unless a value is a tree."""
    if not isinstance(tree, list) or len(tree) > MOST_CALLS:
        raise InvalidTree(None)
    ahead = 0
    for index, level in enumerate(tree):
        if not is_integer(level) or not 1 <= level <= ahead + 1:
            raise InvalidTree(index)
        ahead = level


def is_tree(value):
    """Return whether any value is a tree."""
    try:
        check_tree(value)
    except InvalidTree:
        return False
    return True


def trace_of_tree(tree):
    """Return the closed trace that makes the calls of a tree."""
    check_tree(tree)
    parts = []
    depth = 0
    for level in tree:
        parts.append("-" * (depth + 1 - level) + "+")
        depth = level
    return "".join(parts) + "-" * depth


def tree_of_trace(trace):
    """Return the tree of a closed trace."""
    depths = depths_of(trace)
    if depths[-1] > 0:
        raise NotClosed("the trace leaves words on the stack")
    tree = call_levels_of(depths)
    if len(tree) > MOST_CALLS:
        raise TooLong(MOST_CALLS)
    return tree


def count_sequences(kinds):
    """Return how many different sequences there are of some kinds, which are given in ascending sequence."""
    ways = factorial(len(kinds))
    alike = 0
    ahead = None
    for kind in kinds:
        alike = alike + 1 if kind == ahead else 1
        ways = ways // alike
        ahead = kind
    return ways


def count_orders(tree):
    """Return how many different trees are orders of a tree."""
    check_tree(tree)
    ways = 1
    # Calls have the same kind, a number, if each is an order of the other one.
    kinds = {}
    inner = {}
    # From the last call on; all calls together are like the calls directly in one more call.
    for level in tree[::-1] + [0]:
        within = sorted(inner.pop(level + 1, []))
        ways *= count_sequences(within)
        kind = kinds.setdefault(tuple(within), len(kinds))
        inner.setdefault(level, []).append(kind)
    return ways


def sorted_calls(tree):
    """Return the least order of a tree."""
    inner = {}
    for level in tree[::-1] + [0]:
        order = [level]
        for part in sorted(inner.pop(level + 1, [])):
            order.extend(part)
        inner.setdefault(level, []).append(order)
    return inner[0][0][1:]


def least_order(tree):
    """Return the least of the orders of a tree."""
    check_tree(tree)
    return sorted_calls(tree)


def same_calls(one_tree, other_tree):
    """Return whether one tree is an order of the other one."""
    check_tree(one_tree)
    check_tree(other_tree)
    return sorted_calls(one_tree) == sorted_calls(other_tree)


def frames_written(tree, registers):
    """Return for each call how many calls directly in it have at least the height `registers`."""
    check_tree(tree)
    check_registers(registers)
    frames = [0] * len(tree)
    # For each level the last call so far.
    last = {}
    for index, (level, height) in enumerate(zip(tree, heights_of(tree))):
        last[level] = index
        if level > 1 and height >= registers:
            frames[last[level - 1]] += 1
    return frames
