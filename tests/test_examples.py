"""The examples of the document, word for word, run as one session."""

import doctest
import unittest

from lazyspill.errors import SpillError

EXAMPLES = """
>>> hill = "+++++----++++-----"
>>> slope = "+++++---"

>>> from lazyspill.traces import calls_of, depths_of, is_trace, levels_of, open_heights, turned
>>> [depths_of("++-"), levels_of("++-", 1), is_trace("+--"), turned("+++--+--")]
[[0, 1, 2, 1], [0, 0, 1, 0], False, '++-++---']
>>> [calls_of("++-+", 0), calls_of("++-+", 1), open_heights(slope, 0)]
[[(0, None, 1, 2), (1, 2, 2, 1), (3, None, 2, 1)], [(1, 2, 1, 1), (3, None, 1, 1)], [5, 4]]

>>> from lazyspill.plans import counts_of, lazy_plan, moved_by, turning_moments
>>> [lazy_plan(hill, 3, 0), counts_of(hill, 3, 0, lazy_plan(hill, 3, 0))]
[[0, 0, 0, 0, 1, 2, 2, 2, 2, 1, 1, 1, 1, 2, 2, 2, 2, 1, 0], (3, 3, 6)]
>>> [turning_moments(hill, 3, 0), moved_by(hill, 3, 0, [5, 9, 13, 18]), moved_by(hill, 3, 0, [5, 18])]
[[5, 9, 13, 18], 6, 4]

>>> from lazyspill.rows import count_quiet, count_traces, row_of, sum_written, trace_of_row, written_by
>>> [row_of(hill, 0), row_of(hill, 1), [written_by(row_of(hill, 0), room) for room in range(6)]]
[[2, 2, 2, 2, 1], [2, 2, 2, 2], [9, 7, 5, 3, 1, 0]]
>>> [count_traces(row) for row in [[4], [3, 1], [2, 2], [2, 1, 1], [1, 1, 1, 1]]]
[1, 6, 1, 5, 1]
>>> [count_quiet(3, 2), sum_written(3, 1), len(trace_of_row([2, 1], 1))]
[4, 5, 8]

>>> from lazyspill.trees import count_orders, frames_written, least_order, same_calls, trace_of_tree, tree_of_trace
>>> [tree_of_trace(hill), trace_of_tree([1, 2, 2, 1]), count_orders([1, 2, 3, 2, 1]), least_order([1, 2, 3, 2, 1])]
[[1, 2, 3, 4, 5, 2, 3, 4, 5], '++-+--+-', 4, [1, 1, 2, 2, 3]]
>>> [frames_written(tree_of_trace(hill), 4), same_calls([1, 2, 1], [1, 1, 2]), same_calls([1, 2, 2], [1, 2, 3])]
[[2, 0, 0, 0, 0, 0, 0, 0, 0], True, False]

>>> from lazyspill.traps import best_plan, blocks_of, fewest_traps, plan_in_blocks, shows_traps, traps_by_room
>>> [blocks_of(hill, 3, 0), fewest_traps(hill, 3, 0), counts_of(hill, 3, 0, best_plan(hill, 3, 0))]
[[(0, 3), (4, 8), (9, 12), (13, 16), (17, 18)], 4, (3, 3, 4)]
>>> [plan_in_blocks("++++--", 3, 0, [0, 2, 4]), shows_traps(hill, 3, 0, [(0, 4), (4, 9), (9, 13)]), traps_by_room("++++--", 0)]
[[0, 0, 0, 0, 1, 1, 1], True, [6, 3, 1, 1, 0]]

>>> from lazyspill.orders import best_order, trap_range
>>> calls = [1, 2, 3, 4, 5, 2, 3, 4, 5, 2, 3, 4]
>>> [trap_range(calls, 3, 0), best_order(calls, 3, 0), fewest_traps(trace_of_tree(calls), 3, 0)]
[(4, 5), [1, 2, 3, 4, 5, 2, 3, 4, 2, 3, 4, 5], 5]

>>> from lazyspill.rules import forcing_trace, is_rule, most_in_block, plan_of_rule
>>> [plan_of_rule("++++---", 3, 0, rule) for rule in [("lazy",), ("halving",), ("keep", 1), ("lot", 2)]]
[[0, 0, 0, 0, 1, 1, 1, 1], [0, 0, 0, 0, 2, 2, 2, 1], [0, 0, 0, 0, 3, 3, 1, 1], [0, 0, 0, 0, 2, 2, 2, 0]]
>>> [most_in_block(3, 0, rule) for rule in [("lazy",), ("halving",), ("keep", 1), ("keep", 0), ("keep", 2), ("lot", 2)]]
[4, 3, 4, 4, None, None]

>>> from lazyspill.futures import alike_with, are_alike, moved_behind, parting, parting_with, word_numbers
>>> [word_numbers(slope, 0), word_numbers(slope, 1), moved_behind(slope, 3, 0, "--+")]
[[4, 3], [4, 0], [-1, -1, 0]]
>>> [are_alike("+-+", "+", 0), alike_with("++", "+++", 1, 0), alike_with("++", "+++", 1, 1), parting(slope, "++", 0)]
[True, True, False, ('+', 1)]
>>> [parting("++", "+++", 1), parting_with(slope, "++", 4, 0), parting_with("", "+", 2, 2)]
[('+', 3), '--', '++']

>>> from lazyspill.fits import machines_for, registers_for, telling_trace
>>> [registers_for([(hill, 3)], 0), registers_for([(hill, 0)], 0), registers_for([(hill, 2)], 0), registers_for([(hill, 0), ("+" * 9, 2)], 0)]
[(3, 3), (5, None), None, (7, 7)]
>>> [machines_for([(hill, 2)], 2), telling_trace(0, [2, 4, 9])]
[[(1, 4, 4), (2, 4, 4)], '+++++']

>>> from lazyspill.rounds import traps_in_rounds, words_in_rounds
>>> [words_in_rounds("++-", 3, 2, 0), words_in_rounds("++-", 10 ** 29, 2, 0), words_in_rounds(hill, 10 ** 29, 3, 0)]
[(2, 0), (99999999999999999999999999999, 0), (300000000000000000000000000000, 300000000000000000000000000000)]
>>> [traps_in_rounds("++-", 3, 2, 0), traps_in_rounds("++-", 10 ** 29, 2, 0), traps_in_rounds(hill, 2, 3, 0)]
[1, 50000000000000000000000000000, 8]

>>> from lazyspill.changes import changing_best, changing_counts, changing_ends, changing_lazy
>>> program = ["+", "+", "+", 1, "+", 4, "-"]
>>> [changing_ends(3, 0, program)[3:6], changing_lazy(3, 0, program), changing_best(3, 0, program)]
[[(0, 3), (2, 3), (3, 4)], [0, 0, 0, 0, 2, 3, 3, 3], [0, 0, 0, 0, 3, 3, 3, 3]]
>>> changing_counts(3, 0, program, changing_lazy(3, 0, program))
(3, 0, 2)

>>> from lazyspill.machines import LimitStack, RuleStack, Stack
>>> stack = Stack(3, 0)
>>> [[stack.push() for turn in range(5)], [stack.pop() for turn in range(3)], stack.memory, stack.traps, stack.would("-", "+", 1)]
[[0, 0, 0, 1, 1], [0, 0, 0], 2, 2, [-1, 0, 0]]
>>> [stack.set_registers(1), stack.push(), stack.undo(), stack.program[5:], len(stack), stack == stack.twin()]
[0, 0, None, ['-', '-', '-', 1], 9, True]
>>> other = RuleStack(3, 0, ("keep", 1))
>>> [[other.push() for turn in range(4)], other.described(), LimitStack(1, 0, 5).would("+", "+", "+")]
[[0, 0, 0, 3], ['depth 4', 'memory 3', 'rule keep 1'], [0, 1, 1]]

>>> from lazyspill.texts import format_rule, format_trace, parse_row, parse_rule, parse_trace, parse_tree
>>> [format_trace(hill), parse_trace("+2 -1"), parse_tree("1 2 2"), parse_row(""), parse_rule(3, 0, "keep 1"), format_rule(3, 0, ("lazy",))]
['+5 -4 +4 -5', '++-', [1, 2, 2], [], ('keep', 1), 'lazy']
>>> parse_trace("+2 -3")
raises InvalidSyntax(word=1)

>>> parse_rule(3, 0, "lot")
raises InvalidSyntax(word=1)

>>> from lazyspill.console import Console
>>> console = Console()
>>> [console.execute(command) for command in ["stack 3 0", "run +5 -3", "state", "counts", "row", "numbers", "part +2", "undo"]]
['ok', '2', 'depth 2, memory 2', '2 0 2', '1 1 1 1 1', '4 3', '+1 1', 'ok']
>>> Console().execute("run +1 -2")
raises Empty
"""


def told(error):
    """Return an error as the document writes it."""
    fields = ", ".join(f"{name}={value!r}" for name, value in vars(error).items())
    return f"raises {type(error).__name__}({fields})" if fields else f"raises {type(error).__name__}"


class ExamplesTest(unittest.TestCase):

    def test_examples(self):
        examples = doctest.DocTestParser().get_examples(EXAMPLES)
        self.assertEqual(len(examples), EXAMPLES.count(">>> "))
        names = {}
        for example in examples:
            with self.subTest(source=example.source):
                if not example.want:
                    exec(example.source, names)
                    continue
                try:
                    shown = repr(eval(example.source, names))
                except SpillError as error:
                    shown = told(error)
                self.assertEqual(shown, example.want.strip())


if __name__ == "__main__":
    unittest.main()
