"""The names and arguments of the interface, and the sizes of the package's files."""

import ast
import inspect
import os
import unittest
from importlib import import_module

PACKAGE = os.path.join(os.path.dirname(os.path.dirname(os.path.abspath(__file__))), "lazyspill")
INTERFACE = {
    "lazyspill.traces": {
        "is_trace": ["value"], "depths_of": ["trace"], "levels_of": ["trace", "top"],
        "calls_of": ["trace", "top"], "open_heights": ["trace", "top"], "turned": ["trace"],
    },
    "lazyspill.plans": {
        "ends_of": ["trace", "registers", "top"], "is_plan": ["trace", "registers", "top", "value"],
        "counts_of": ["trace", "registers", "top", "plan"], "lazy_plan": ["trace", "registers", "top"],
        "moved_by": ["trace", "registers", "top", "moments"], "turning_moments": ["trace", "registers", "top"],
    },
    "lazyspill.rows": {
        "row_of": ["trace", "top"], "written_by": ["row", "room"], "written_along": ["trace", "registers", "top"],
        "is_row": ["value"], "trace_of_row": ["row", "top"], "count_traces": ["row"],
        "count_quiet": ["pushes", "room"], "sum_written": ["pushes", "room"],
    },
    "lazyspill.trees": {
        "is_tree": ["value"], "trace_of_tree": ["tree"], "tree_of_trace": ["trace"], "count_orders": ["tree"],
        "least_order": ["tree"], "same_calls": ["one_tree", "other_tree"], "frames_written": ["tree", "registers"],
    },
    "lazyspill.traps": {
        "blocks_of": ["trace", "registers", "top"], "fewest_traps": ["trace", "registers", "top"],
        "best_plan": ["trace", "registers", "top"], "plan_in_blocks": ["trace", "registers", "top", "begins"],
        "stretches_of": ["trace", "registers", "top"], "shows_traps": ["trace", "registers", "top", "value"],
        "traps_by_room": ["trace", "top"],
    },
    "lazyspill.orders": {
        "trap_range": ["tree", "registers", "top"], "best_order": ["tree", "registers", "top"],
        "worst_order": ["tree", "registers", "top"],
    },
    "lazyspill.rules": {
        "is_rule": ["registers", "top", "value"], "plan_of_rule": ["trace", "registers", "top", "rule"],
        "most_in_block": ["registers", "top", "rule"], "forcing_trace": ["registers", "top", "rule", "traps"],
        "restless_trace": ["registers", "top", "rule", "many"],
    },
    "lazyspill.futures": {
        "word_numbers": ["trace", "top"], "moved_behind": ["trace", "registers", "top", "future"],
        "are_alike": ["one", "other", "top"], "alike_with": ["one", "other", "registers", "top"],
        "parting_with": ["one", "other", "registers", "top"], "parting": ["one", "other", "top"],
    },
    "lazyspill.fits": {
        "registers_for": ["counts", "top"], "machines_for": ["counts", "most"],
        "telling_trace": ["top", "choices"],
    },
    "lazyspill.changes": {
        "is_program": ["top", "value"], "changing_ends": ["registers", "top", "program"],
        "changing_lazy": ["registers", "top", "program"], "changing_traps": ["registers", "top", "program"],
        "changing_best": ["registers", "top", "program"],
        "changing_counts": ["registers", "top", "program", "plan"],
    },
    "lazyspill.texts": {
        "format_trace": ["trace"], "format_tree": ["tree"], "format_row": ["row"],
        "format_rule": ["registers", "top", "rule"], "parse_trace": ["text"], "parse_tree": ["text"],
        "parse_row": ["text"], "parse_rule": ["registers", "top", "text"],
    },
    "lazyspill.machines": {
        "Stack": ["registers", "top"], "RuleStack": ["registers", "top", "rule"],
        "LimitStack": ["registers", "top", "most"], "LimitRuleStack": ["registers", "top", "rule", "most"],
    },
    "lazyspill.console": {"Console": []},
    "lazyspill.rounds": {
        "words_in_rounds": ["trace", "times", "registers", "top"],
        "traps_in_rounds": ["trace", "times", "registers", "top"],
    },
}
# For each class the methods, with their arguments, that stand in its own body, and the properties.
METHODS = {
    "lazyspill.machines": {
        "Stack": {
            "push": [], "pop": [], "set_registers": ["number"], "undo": [], "would": ["items"], "twin": [],
            "described": [], "__eq__": ["other"], "__len__": [],
        },
        "RuleStack": {"set_registers": ["number"], "would": ["items"], "described": [], "__eq__": ["other"]},
        "LimitStack": {"described": [], "__eq__": ["other"]},
        "LimitRuleStack": {"set_registers": ["number"], "described": [], "__eq__": ["other"]},
    },
    "lazyspill.console": {"Console": {"execute": ["command"]}},
}
PROPERTIES = {
    "Stack": ["registers", "top", "depth", "memory", "written", "read", "traps", "program"],
    "RuleStack": ["rule"], "LimitStack": ["most"],
}


def source_of(name):
    with open(os.path.join(PACKAGE, name), encoding="ascii") as file:
        return file.read()


class LayoutTest(unittest.TestCase):

    def test_each_function_is_defined_in_its_file_with_its_arguments(self):
        for module, functions in INTERFACE.items():
            for name, arguments in functions.items():
                with self.subTest(module=module, name=name):
                    function = getattr(import_module(module), name)
                    self.assertEqual(function.__module__, module)
                    self.assertEqual(list(inspect.signature(function).parameters), arguments)

    def test_each_method_stands_in_its_class(self):
        for module, classes in METHODS.items():
            for name, methods in classes.items():
                own = vars(getattr(import_module(module), name))
                for method, arguments in methods.items():
                    self.assertEqual(list(inspect.signature(own[method]).parameters), ["self", *arguments], (name, method))
                for given in PROPERTIES.get(name, []):
                    self.assertIsInstance(own[given], property)

    def test_the_folder_holds_only_python_files(self):
        for name in os.listdir(PACKAGE):
            if name != "__pycache__":
                self.assertRegex(name, r"\A[a-z0-9_]+\.py\Z")

    def test_sizes(self):
        for name in os.listdir(PACKAGE):
            if name == "__pycache__":
                continue
            text = source_of(name)
            lines = text.splitlines()
            self.assertLess(len(lines), 400, name)
            self.assertLessEqual(max(map(len, lines)), 120, name)
            self.assertRegex(text, r"\A[ -~\n]*\Z")
            for node in ast.walk(ast.parse(text)):
                if isinstance(node, ast.FunctionDef):
                    self.assertLessEqual(node.end_lineno - node.lineno, 39, (name, node.name))


if __name__ == "__main__":
    unittest.main()
