"""The greatest sizes that the document allows, each call in well under a second."""

import random
import time
import unittest

from lazyspill.changes import (
    changing_best, changing_counts, changing_ends, changing_lazy, changing_traps, is_program,
)
from lazyspill.console import Console
from lazyspill.errors import InvalidCommand, InvalidSyntax
from lazyspill.fits import machines_for, registers_for, telling_trace
from lazyspill.futures import alike_with, are_alike, moved_behind, parting, parting_with, word_numbers
from lazyspill.machines import LimitRuleStack, LimitStack, RuleStack, Stack
from lazyspill.orders import best_order, trap_range, worst_order
from lazyspill.plans import counts_of, ends_of, is_plan, lazy_plan, moved_by, turning_moments
from lazyspill.rows import (
    count_quiet, count_traces, is_row, row_of, sum_written, trace_of_row, written_along, written_by,
)
from lazyspill.rounds import traps_in_rounds, words_in_rounds
from lazyspill.rules import forcing_trace, is_rule, most_in_block, plan_of_rule, restless_trace
from lazyspill.texts import (
    format_row, format_rule, format_trace, format_tree, parse_row, parse_rule, parse_trace, parse_tree,
)
from lazyspill.traces import calls_of, depths_of, is_trace, levels_of, open_heights, turned
from lazyspill.traps import (
    best_plan, blocks_of, fewest_traps, plan_in_blocks, shows_traps, stretches_of, traps_by_room,
)
from lazyspill.trees import (
    count_orders, frames_written, is_tree, least_order, same_calls, trace_of_tree, tree_of_trace,
)
from tests.samples import MOST_REGISTERS, long_traces, long_trees, rules_for, some_program

# Each call takes less than a hundredth of this time; a slow machine does not matter, a slow way does.
LIMIT = 0.5
TRACES = (
    "+" * 1000, "+" * 500 + "-" * 500, "+-" * 500, "+" * 250 + "+-" * 250 + "-" * 250, ("+" * 25 + "-" * 25) * 20,
    *long_traces(3),
)
MACHINES = ((1, 0), (1, 1), (9, 2), (60, 3), (500, 0), (1000, 0), (1000, 999), (MOST_REGISTERS, 0))
CHAIN = list(range(1, 401))
TREES = (CHAIN, [1] * 400, CHAIN[:20] * 20, CHAIN[:200] * 2, sum([CHAIN[:length] for length in range(1, 28)], []), *long_trees(3))
ROWS = ([1] * 1000, [1000 - index for index in range(1000)], [MOST_REGISTERS] * 1000, [500], [1] * 500)
FORTY = (
    CHAIN[:40], sum([CHAIN[:length] for length in (4, 5, 6, 7, 8, 9)], [1]), [1, 2] * 6 + [3] * 5 + [4] * 6,
    [1, *range(2, 7), *range(2, 8), *range(2, 9), *range(2, 10), *range(2, 5), 1, 2, 3, 1, 2, 1, 1, 2, 3, 4],
    [1, 2, 3, 3, 4, 3, 4, 5, 3, 4, 5, 6, 2, 3, 2, 3, 4, 2, 3, 3, 2, 3, 4, 4, 1, 2, 2, 3, 1, 2, 3, 1, 2, 1, 1, 2, 3, 4, 4, 4],
)


class SizesTest(unittest.TestCase):

    def quick(self, function, *args):
        """Return what a call returns, and fail if it takes long."""
        begin = time.process_time()
        result = function(*args)
        self.assertLess(time.process_time() - begin, LIMIT, function.__name__)
        return result

    def test_traces(self):
        for trace in TRACES:
            self.assertEqual(len(trace), 1000)
            self.assertIs(self.quick(is_trace, trace), True)
            self.quick(depths_of, trace)
            for top in (0, 1, 500, 1000):
                for function in (levels_of, calls_of, open_heights, row_of, traps_by_room):
                    self.quick(function, trace, top)
            if trace.count("-") == 500:
                self.quick(turned, trace)

    def test_plans(self):
        for trace in TRACES:
            for registers, top in MACHINES:
                plan = self.quick(lazy_plan, trace, registers, top)
                self.assertIs(self.quick(is_plan, trace, registers, top, plan), True)
                self.quick(counts_of, trace, registers, top, plan)
                self.quick(moved_by, trace, registers, top, list(range(1001)))
                for function in (ends_of, turning_moments, written_along):
                    self.quick(function, trace, registers, top)

    def test_traps(self):
        for trace in TRACES:
            for registers, top in MACHINES:
                for function in (fewest_traps, best_plan):
                    self.quick(function, trace, registers, top)
                begins = [begin for begin, last in self.quick(blocks_of, trace, registers, top)]
                for several in (begins, list(range(1001))):
                    self.quick(plan_in_blocks, trace, registers, top, several)
                stretches = self.quick(stretches_of, trace, registers, top)
                for several in (stretches, [(step, step + 1) for step in range(1000)], [(0, 1000)]):
                    self.quick(shows_traps, trace, registers, top, several)

    def test_rows(self):
        for row in ROWS:
            self.assertIs(self.quick(is_row, row), True)
            self.quick(written_by, row, 1)
            if sum(row) <= 500:
                self.quick(trace_of_row, row, 0)
        for row in ([1] * 300, [300], [299, 1], list(range(24, 0, -1)), [10] * 30, [100, 99, 98, 1, 1, 1]):
            self.quick(count_traces, row)
        for room in (0, 1, 2, 50, 100, 199, 200, MOST_REGISTERS):
            self.quick(count_quiet, 200, room)
            self.quick(sum_written, 200, room)

    def test_trees(self):
        for tree in TREES:
            self.assertIs(self.quick(is_tree, tree), True)
            trace = self.quick(trace_of_tree, tree)
            self.assertEqual(self.quick(tree_of_trace, trace), tree)
            self.quick(count_orders, tree)
            least = self.quick(least_order, tree)
            self.assertIs(self.quick(same_calls, tree, least), True)
            self.quick(frames_written, tree, 2)

    def test_orders(self):
        for tree in FORTY:
            self.assertLessEqual(len(tree), 40)
            for registers, top in ((1, 0), (2, 0), (3, 0), (5, 0), (8, 0), (9, 1), (1, 1)):
                for function in (trap_range, best_order, worst_order):
                    self.quick(function, tree, registers, top)

    def test_rules(self):
        for trace in TRACES:
            for registers, top in MACHINES:
                for rule in (("lazy",), ("halving",), ("keep", 0), ("lot", 1)):
                    self.assertIs(self.quick(is_rule, registers, top, rule), True)
                    self.quick(most_in_block, registers, top, rule)
                    self.quick(plan_of_rule, trace, registers, top, rule)
        for registers, top in ((15, 0), (65, 50), (64, 50), (50, 50)):
            for rule in rules_for(registers - top):
                self.assertLessEqual(len(self.quick(forcing_trace, registers, top, rule, 5)), 1000)
                if most_in_block(registers, top, rule) is None:
                    self.assertLessEqual(len(self.quick(restless_trace, registers, top, rule, 20)), 1000)

    def test_futures(self):
        for trace in TRACES:
            for top in (0, 1, 500, 1000):
                self.quick(word_numbers, trace, top)
                for other in ("", "+" * 1000, TRACES[-1], trace):
                    self.quick(are_alike, trace, other, top)
                    self.quick(parting, trace, other, top)
            for registers, top in MACHINES:
                for future in ("+" * 1000, "+-" * 500):
                    self.quick(moved_behind, trace, registers, top, future)
                for other in ("", "+" * 1000, TRACES[-1], trace):
                    self.quick(alike_with, trace, other, registers, top)
                    if registers <= 1000:
                        self.quick(parting_with, trace, other, registers, top)

    def test_fits(self):
        for traces in (TRACES[:1] * 50, TRACES[1:2] * 50, TRACES[-1:] * 50, (TRACES * 7)[:50]):
            for number in (0, 1, 100, 10 ** 30):
                counts = [(trace, number) for trace in traces]
                self.quick(machines_for, counts, 100)
                for top in (0, 100, 1000):
                    self.quick(registers_for, counts, top)
        self.quick(telling_trace, 0, list(range(980, 1000)))

    def test_rounds(self):
        turning = ["+" * 997, "+" * 500 + "-" * 499, "+" * 250 + "+-" * 250 + "-" * 249, "+" * 60 + "+-" * 440 + "-" * 59]
        for trace in (*TRACES, *turning):
            for registers, top in ((1, 0), (60, 0), (61, 1), (310, 250), (MOST_REGISTERS, MOST_REGISTERS - 60)):
                self.quick(traps_in_rounds, trace, 10 ** 30 - 1, registers, top)
                self.quick(words_in_rounds, trace, 10 ** 30 - 1, registers, top)
            self.quick(words_in_rounds, trace, 10 ** 30 - 1, MOST_REGISTERS, 0)

    def test_changes(self):
        source = random.Random(2)
        programs = [list(trace) for trace in TRACES] + [some_program(source, 1000, (5, 9, 300)) for turn in range(3)]
        for program in (*programs, [1, MOST_REGISTERS] * 500, (["+"] * 400 + [5, 500]) * 2 + ["-"] * 196):
            self.assertEqual(len(program), 1000)
            self.assertIs(self.quick(is_program, 1, program), True)
            for registers, top in ((1, 0), (5, 1), (900, 1), (MOST_REGISTERS, 0)):
                for function in (changing_ends, changing_traps, changing_best):
                    self.quick(function, registers, top, program)
                plan = self.quick(changing_lazy, registers, top, program)
                self.quick(changing_counts, registers, top, program, plan)

    def test_machines(self):
        makers = (
            lambda: Stack(3, 1), lambda: RuleStack(3, 0, ("halving",)), lambda: LimitStack(3, 0, 10 ** 30 - 1),
            lambda: LimitRuleStack(3, 0, ("lot", 2), 10 ** 30 - 1), lambda: Stack(MOST_REGISTERS, 0),
        )
        for maker in makers:
            stack = maker()
            for turn in range(300):
                self.quick(stack.pop if turn % 7 in (3, 4) else stack.push)
                self.quick(stack.would, *"+-+-+-+-+-+-")
            twin = self.quick(stack.twin)
            self.assertIs(self.quick(stack.__eq__, twin), True)
            self.assertEqual([self.quick(len, twin), len(twin.program)], [300, 300])
            self.quick(twin.described)
            for turn in range(300):
                self.quick(twin.undo)

    def test_texts(self):
        for trace in TRACES:
            self.assertEqual(self.quick(parse_trace, self.quick(format_trace, trace)), trace)
        for tree in TREES:
            self.assertEqual(self.quick(parse_tree, self.quick(format_tree, tree)), tree)
        for row in ROWS:
            self.assertEqual(self.quick(parse_row, self.quick(format_row, row)), row)
        for rule in rules_for(40):
            self.assertEqual(self.quick(parse_rule, 40, 0, self.quick(format_rule, 40, 0, rule)), rule)
        for text in ("9" * 10000, " " * 10000, "+1 " * 3333, "1 " * 5000, "-" * 10000, "+1 -1 " * 1666, "keep " * 2000):
            for function, ahead in ((parse_trace, []), (parse_tree, []), (parse_row, []), (parse_rule, [3, 0])):
                with self.assertRaises(InvalidSyntax):
                    self.quick(function, *ahead, text)

    def test_console(self):
        for rule in ("", " halving", " lot 2"):
            console = Console()
            self.quick(console.execute, f"stack 9 1{rule}")
            commands = ("run" + " +1 -1" * 250, "run +300 -150 +50", "undo", "run +250 -250", "run +9", "undo")
            others = ("state", "counts", "row", "numbers", "fewest", "part +500 -400", "part" + " +1 -1" * 500)
            for command in (*commands, *others, "run " + "+1 " * 3000 + "x", "part " + "+" * 9000):
                try:
                    self.quick(console.execute, command)
                except InvalidCommand:
                    self.assertGreater(len(command), 9000)


if __name__ == "__main__":
    unittest.main()
