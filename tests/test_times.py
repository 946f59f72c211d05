"""The time that calls on long traces take, beside a plain way that looks at each step again and again."""

import time
import unittest

from lazyspill.plans import counts_of, ends_of, is_plan, lazy_plan
from tests.samples import long_traces

TRACE = "+" * 500 + "-" * 500
MACHINE = (9, 2)
# The calls take less than half of the time of the plain way; the rest is left to a busy machine.
PART = 0.75


def is_integer(value):
    return isinstance(value, int) and not isinstance(value, bool)


def plain_ends(trace, registers, top):
    depth = 0
    for step in trace:
        if step not in "+-" or (step == "-" and depth == 0):
            return None
        depth += 1 if step == "+" else -1
    depth = 0
    depths = [depth]
    for step in trace:
        depth += 1 if step == "+" else -1
        depths.append(depth)
    levels = [max(0, depth - top) for depth in depths]
    return [(max(0, level - (registers - top)), level) for level in levels]


def plain_is_plan(trace, registers, top, value):
    ends = plain_ends(trace, registers, top)
    if not all([is_integer(item) for item in value]) or len(value) != len(ends):
        return False
    for index, (lower, upper) in enumerate(ends):
        if not lower <= value[index] <= upper:
            return False
    return True


def plain_counts(trace, registers, top, plan):
    if not plain_is_plan(trace, registers, top, plan):
        return None
    rises = [after - before for before, after in zip(plan, plan[1:]) if before != after]
    return (sum([rise for rise in rises if rise > 0]), sum([-rise for rise in rises if rise < 0]), len(rises))


def plain_lazy(trace, registers, top):
    plan = []
    number = 0
    for lower, upper in plain_ends(trace, registers, top):
        number = min(max(number, lower), upper)
        plan.append(number)
    return plan


def seconds(function, args):
    """Return the least time of some rounds of calls."""
    rounds = []
    for turn in range(15):
        begin = time.process_time()
        for again in range(10):
            function(*args)
        rounds.append(time.process_time() - begin)
    return min(rounds)


class TimesTest(unittest.TestCase):

    def setUp(self):
        self.pairs = (
            (ends_of, plain_ends, False), (lazy_plan, plain_lazy, False),
            (is_plan, plain_is_plan, True), (counts_of, plain_counts, True),
        )

    def test_the_plain_way_returns_the_same(self):
        for trace in (TRACE, "+" * 1000, "+-" * 500, *long_traces(3)):
            for registers, top in (MACHINE, (1, 0), (5, 5), (700, 100)):
                plan = plain_lazy(trace, registers, top)
                for function, plain, takes_plan in self.pairs:
                    args = (trace, registers, top, plan) if takes_plan else (trace, registers, top)
                    self.assertEqual(function(*args), plain(*args))

    def test_the_plain_way_takes_longer(self):
        plan = plain_lazy(TRACE, *MACHINE)
        for function, plain, takes_plan in self.pairs:
            args = (TRACE, *MACHINE, plan) if takes_plan else (TRACE, *MACHINE)
            # Several tries, as something else on the machine may slow down one of them.
            parts = []
            while len(parts) < 5 and (not parts or min(parts) > PART):
                parts.append(seconds(function, args) / seconds(plain, args))
            self.assertLess(min(parts), PART, function.__name__)


if __name__ == "__main__":
    unittest.main()
