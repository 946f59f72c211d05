"""Orders: the sequences of calls for which the fewest traps are the least and the greatest."""

from lazyspill.checks import check_machine
from lazyspill.traces import call_levels_of, depths_of
from lazyspill.trees import check_tree

# What follows must know of the present block only its state: the tuple (below, above) of how far its
# levels go below and above the present level.


def stepped_up(state, room):
    """Return the tuple (traps, state) behind a step to the next level."""
    below, above = state
    if below == room:
        return (1, (0, 0))
    return (0, (below + 1, max(above - 1, 0)))


def stepped_down(state, room):
    """Return the tuple (traps, state) behind a step to the level below."""
    below, above = state
    traps, (above, below) = stepped_up((above, below), room)
    return (traps, (below, above))


def kinds_of(tree, top):
    """Return the list of the kinds of calls, the last one that of a call around all of them.

    A kind is a tuple (whether the push and the pop change the level, the indexes of the kinds of the
    calls that are directly in the call).
    """
    kinds = {}
    inner = {}
    for level in tree[::-1] + [0]:
        kind = (level > top, tuple(sorted(inner.pop(level + 1, []))))
        inner.setdefault(level, []).append(kinds.setdefault(kind, len(kinds)))
    return list(kinds)


def next_places(within, made):
    """Return the places of the calls that can come next, if the ones at the bits of `made` were made."""
    places = []
    for place, kind in enumerate(within):
        # Of calls of the same kind the first one comes first: another sequence would be the same order.
        waits = place > 0 and within[place - 1] == kind and not made & (1 << (place - 1))
        if not waits and not made & (1 << place):
            places.append(place)
    return places


class Search:
    """The search for the order with the fewest traps, or with the most.

    It goes over ways, tuples (traps, state, steps): the traps and the state behind some steps.
    """

    def __init__(self, kinds, room, greatest):
        self.kinds = kinds
        self.room = room
        self.greatest = greatest
        self.known = {}

    def best(self, ways):
        """Return the best one of the ways over the same calls."""
        # Fewer traps outweigh each state: with one trap more a new block can begin at any step.
        # With as many traps, below is the same, as no call goes lower than where it begins; and the
        # less above is, the longer the block can last.
        return max(ways) if self.greatest else min(ways)

    def over_call(self, index, state):
        """Return the best way over a call of a kind, from a state on."""
        if (index, state) not in self.known:
            moving, within = self.kinds[index]
            first, entered = stepped_up(state, self.room) if moving else (0, state)
            traps, inside, steps = self.along_calls(within, entered)
            last, left = stepped_down(inside, self.room) if moving else (0, inside)
            self.known[(index, state)] = (first + traps + last, left, "+" + steps + "-")
        return self.known[(index, state)]

    def along_calls(self, within, state):
        """Return the best way over calls of these kinds, in any sequence, from a state on."""
        # For each choice of calls, as the bits of a number, the best way over them.
        ways = {0: (0, state, "")}
        for _ in within:
            longer = {}
            for made, (traps, behind, steps) in ways.items():
                for place in next_places(within, made):
                    more, left, others = self.over_call(within[place], behind)
                    way = (traps + more, left, steps + others)
                    longer.setdefault(made | (1 << place), []).append(way)
            ways = {made: self.best(found) for made, found in longer.items()}
        return ways[(1 << len(within)) - 1]


def best_way(tree, registers, top, greatest):
    """Return the tuple (traps, order) with the least or the greatest of the fewest traps."""
    check_tree(tree)
    check_machine(registers, top)
    kinds = kinds_of(tree, top)
    _, within = kinds[-1]
    traps, _, steps = Search(kinds, registers - top, greatest).along_calls(within, (0, 0))
    return (traps, call_levels_of(depths_of(steps)))


def trap_range(tree, registers, top):
    """Return the tuple (least, greatest) of the fewest traps of the traces of all orders of the tree."""
    least, _ = best_way(tree, registers, top, False)
    greatest, _ = best_way(tree, registers, top, True)
    return (least, greatest)


def best_order(tree, registers, top):
    """Return an order of the tree whose fewest traps are the least number."""
    _, order = best_way(tree, registers, top, False)
    return order


def worst_order(tree, registers, top):
    """Return an order of the tree whose fewest traps are the greatest number."""
    _, order = best_way(tree, registers, top, True)
    return order
