"""Point [37], with points [2], [3], [5], [10], [11] and [14]: texts there and back."""

import random
import re
import unittest
from itertools import groupby, product

from lazyspill.errors import InvalidRegisters, InvalidRule, InvalidSyntax, InvalidTop
from lazyspill.texts import (
    format_row, format_rule, format_trace, format_tree, parse_row, parse_rule, parse_trace, parse_tree,
)
from tests.samples import (
    ANY_VALUES, HILL, MOST_REGISTERS, long_traces, long_trees, raised, registers_error, row_error, rule_error,
    rules_for, top_error, trace_error, traces_up_to, tree_error, trees_up_to,
)

WORDS = (
    "", "+1", "-1", "+2", "-2", "+0", "-0", "+01", "1+", "+", "-", "++", "+-1", "0", "1", "2", "3", "4", "01", "-3", "x",
    "lazy", "halving", "keep", "lot", "Lazy", "keep1", "+1000", "+1001", "1000", "1" * 30, "1" * 31, "+" + "1" * 30,
    "+" + "0" * 30, "1_0", "0x1", "1.0", "+1,", "None", "+1-1", "+-", "-+1",
)
NUMBER = re.compile(r"(0|[1-9][0-9]{0,29})\Z")


def words_by_definition(text):
    return re.split(" ", text) if text else []


def is_trace_text(words):
    """Return whether words are the text of a trace."""
    if not all(word[:1] in ("+", "-") and NUMBER.match(word[1:]) for word in words):
        return False
    if sum(int(word[1:]) for word in words) > 1000:
        return False
    trace = "".join(word[0] * int(word[1:]) for word in words)
    runs = [f"{sign}{len(list(steps))}" for sign, steps in groupby(trace)]
    return trace_error(trace) is None and runs == words


def is_tree_text(words):
    return all(NUMBER.match(word) for word in words) and tree_error([int(word) for word in words]) is None


def is_row_text(words):
    return all(NUMBER.match(word) for word in words) and row_error([int(word) for word in words]) is None


def syntax_error(value, is_text):
    """Return the error for a text of which each beginning is a text, too."""
    if type(value) is not str:
        return (InvalidSyntax, None)
    words = words_by_definition(value)
    for index in range(len(words)):
        if not is_text(words[:index + 1]):
            return (InvalidSyntax, index)
    return None


def rule_syntax_error(registers, top, value):
    if type(value) is not str:
        return (InvalidSyntax, None)
    texts = [[str(part) for part in rule] for rule in rules_for(registers - top)]
    words = words_by_definition(value)
    for index in range(len(words)):
        if words[:index + 1] not in [text[:index + 1] for text in texts]:
            return (InvalidSyntax, index)
    return None if words in texts else (InvalidSyntax, len(words))


def changed(words, others):
    """Return the words with one word changed, left out or put in, anywhere."""
    found = []
    for index in range(len(words) + 1):
        found.append(words[:index] + words[index + 1:])
        for other in others:
            found.append(words[:index] + [other] + words[index:])
            found.append(words[:index] + [other] + words[index + 1:])
    return [" ".join(several) for several in found]


class ExamplesTest(unittest.TestCase):

    def test_examples(self):
        self.assertEqual([format_trace(HILL), parse_trace("+2 -1")], ["+5 -4 +4 -5", "++-"])
        self.assertEqual([parse_tree("1 2 2"), parse_row("")], [[1, 2, 2], []])
        self.assertEqual([parse_rule(3, 0, "keep 1"), format_rule(3, 0, ("lazy",))], [("keep", 1), "lazy"])
        self.assertEqual(raised(parse_trace, "+2 -3"), (InvalidSyntax, 1))
        self.assertEqual(raised(parse_rule, 3, 0, "lot"), (InvalidSyntax, 1))


class ThereAndBackTest(unittest.TestCase):

    def test_traces(self):
        for trace in [*traces_up_to(8), HILL, "+" * 1000, "+-" * 500, "+" * 500 + "-" * 500, *long_traces(3)]:
            words = [f"{sign}{len(list(steps))}" for sign, steps in groupby(trace)]
            self.assertEqual(format_trace(trace), " ".join(words))
            self.assertEqual(parse_trace(" ".join(words)), trace)

    def test_trees(self):
        for tree in [*trees_up_to(6), list(range(1, 401)), [1] * 400, *long_trees(2)]:
            self.assertEqual(format_tree(tree), " ".join(map(str, tree)))
            self.assertEqual(parse_tree(format_tree(tree)), tree)

    def test_rows(self):
        for row in ([], [1], [3, 3, 1], [1] * 1000, list(range(1000, 0, -1)), [MOST_REGISTERS] * 300 + [7, 1]):
            self.assertEqual(format_row(row), " ".join(map(str, row)))
            self.assertEqual(parse_row(format_row(row)), row)

    def test_rules(self):
        for registers, top in ((1, 0), (1, 1), (3, 0), (9, 4)):
            for rule in rules_for(registers - top):
                text = format_rule(registers, top, rule)
                self.assertEqual(text, rule[0] if len(rule) == 1 else f"{rule[0]} {rule[1]}")
                self.assertEqual(parse_rule(registers, top, text), rule)
        self.assertEqual(parse_rule(MOST_REGISTERS, 0, f"keep {MOST_REGISTERS}"), ("keep", MOST_REGISTERS))
        self.assertEqual(format_rule(MOST_REGISTERS, 0, ("lot", 10 ** 30)), f"lot {10 ** 30}")
        # This number has 31 digits.
        self.assertEqual(raised(parse_rule, MOST_REGISTERS, 0, f"lot {10 ** 30}"), (InvalidSyntax, 1))

    def test_the_empty_text(self):
        self.assertEqual([format_trace(""), format_tree([]), format_row([])], ["", "", ""])
        self.assertEqual([parse_trace(""), parse_tree(""), parse_row("")], ["", [], []])
        self.assertEqual(raised(parse_rule, 3, 0, ""), (InvalidSyntax, 0))


class SyntaxErrorsTest(unittest.TestCase):

    def test_all_short_texts(self):
        for many in range(4):
            for words in product(WORDS[:28] if many == 3 else WORDS, repeat=many):
                text = " ".join(words)
                self.assertEqual(raised(parse_trace, text), syntax_error(text, is_trace_text), text)
                self.assertEqual(raised(parse_tree, text), syntax_error(text, is_tree_text), text)
                self.assertEqual(raised(parse_row, text), syntax_error(text, is_row_text), text)
                self.assertEqual(raised(parse_rule, 3, 0, text), rule_syntax_error(3, 0, text), text)

    def test_one_word_changed_left_out_or_put_in(self):
        for trace in traces_up_to(6):
            for text in changed(words_by_definition(format_trace(trace)), ("", "+1", "-1", "+3", "x", "+01", "2")):
                wanted = syntax_error(text, is_trace_text)
                self.assertEqual(raised(parse_trace, text), wanted, text)
                if wanted is None:
                    self.assertEqual(format_trace(parse_trace(text)), text)
        for tree in trees_up_to(4):
            for text in changed([str(level) for level in tree], ("", "0", "1", "2", "4", "01", "+1", "x")):
                wanted = syntax_error(text, is_tree_text)
                self.assertEqual(raised(parse_tree, text), wanted, text)
                if wanted is None:
                    self.assertEqual(format_tree(parse_tree(text)), text)
        for row in ([], [1], [2, 1], [5, 5, 2], [4, 3, 1, 1]):
            for text in changed([str(item) for item in row], ("", "0", "1", "2", "4", "01", "-1", "x")):
                wanted = syntax_error(text, is_row_text)
                self.assertEqual(raised(parse_row, text), wanted, text)
                if wanted is None:
                    self.assertEqual(format_row(parse_row(text)), text)
        for registers, top in ((1, 0), (3, 0), (3, 3)):
            for rule in rules_for(registers - top):
                for text in changed([str(part) for part in rule], WORDS):
                    wanted = rule_syntax_error(registers, top, text)
                    self.assertEqual(raised(parse_rule, registers, top, text), wanted, text)

    def test_long_texts(self):
        source = random.Random(3)
        for trace in long_traces(2, 300):
            words = words_by_definition(format_trace(trace))
            for turn in range(60):
                index = source.randrange(len(words))
                others = list(words)
                others[index] = source.choice(("", "x", "-200", "+1", "-1", "+1001", "+0"))
                text = " ".join(others)
                self.assertEqual(raised(parse_trace, text), syntax_error(text, is_trace_text))

    def test_one_step_or_number_too_many(self):
        self.assertEqual(parse_trace("+500 -500"), "+" * 500 + "-" * 500)
        self.assertEqual(raised(parse_trace, "+501 -500"), (InvalidSyntax, 1))
        self.assertEqual(raised(parse_trace, "+1001"), (InvalidSyntax, 0))
        self.assertEqual(raised(parse_trace, " ".join(["+1 -1"] * 500 + ["+1"])), (InvalidSyntax, 1000))
        self.assertEqual(raised(parse_trace, "+" + "9" * 9000), (InvalidSyntax, 0))
        self.assertEqual(raised(parse_tree, " ".join(["1"] * 401)), (InvalidSyntax, 400))
        self.assertEqual(raised(parse_tree, " ".join(["1"] * 400 + ["0"])), (InvalidSyntax, 400))
        self.assertEqual(raised(parse_row, " ".join(["1"] * 1001)), (InvalidSyntax, 1000))
        self.assertEqual(parse_row("9" * 30), [MOST_REGISTERS])
        self.assertEqual(raised(parse_row, "1" + "0" * 30), (InvalidSyntax, 0))
        self.assertEqual(raised(parse_row, "9" * 9999), (InvalidSyntax, 0))

    def test_spaces(self):
        for text, word in ((" ", 0), ("  ", 0), (" +1", 0), ("+1 ", 1), ("+1  -1", 1), ("+1 -1 ", 2)):
            self.assertEqual(raised(parse_trace, text), (InvalidSyntax, word))
        for text, word in ((" ", 0), (" 1", 0), ("1 ", 1), ("1  1", 1)):
            self.assertEqual(raised(parse_tree, text), (InvalidSyntax, word))
            self.assertEqual(raised(parse_row, text), (InvalidSyntax, word))
        for text, word in (
            (" ", 0), (" lazy", 0), ("lazy ", 1), ("keep  1", 1), ("keep 1 ", 2), ("keep ", 1), ("keep", 1),
            ("lazy 1", 1), ("keep 4", 1), ("keep 4 4", 1), ("keep 3 4", 2), ("lot 0", 1), ("lot 5", 1), ("keep x", 1),
            ("keep lazy", 1), ("3", 0), ("lazy lazy", 1), ("keep 01", 1), ("keep +1", 1), ("keep -1", 1), ("lazykeep", 0),
        ):
            self.assertEqual(raised(parse_rule, 3, 0, text), (InvalidSyntax, word), text)


class ErrorsTest(unittest.TestCase):

    def test_any_values_for_each_parameter(self):
        for value in ANY_VALUES:
            self.assertEqual(raised(format_trace, value), trace_error(value), value)
            self.assertEqual(raised(format_tree, value), tree_error(value), value)
            self.assertEqual(raised(format_row, value), row_error(value), value)
            self.assertEqual(raised(parse_trace, value), syntax_error(value, is_trace_text), value)
            self.assertEqual(raised(parse_tree, value), syntax_error(value, is_tree_text), value)
            self.assertEqual(raised(parse_row, value), syntax_error(value, is_row_text), value)
            self.assertEqual(raised(parse_rule, 3, 0, value), rule_syntax_error(3, 0, value), value)
            self.assertEqual(raised(format_rule, 3, 0, value), rule_error(3, 0, value), value)
            self.assertEqual(raised(parse_rule, value, 0, "lazy"), registers_error(value), value)
            self.assertEqual(raised(parse_rule, 3, value, "lazy"), top_error(value, 3), value)
            self.assertEqual(raised(format_rule, value, 0, ("lazy",)), registers_error(value), value)
            self.assertEqual(raised(format_rule, 3, value, ("lazy",)), top_error(value, 3), value)

    def test_the_first_wrong_parameter_counts(self):
        for value in (None, "x", ("lazy", 1)):
            for registers, top, wanted in ((0, 0, InvalidRegisters), (0, 1, InvalidRegisters), (3, 4, InvalidTop)):
                self.assertEqual(raised(parse_rule, registers, top, value), (wanted,))
                self.assertEqual(raised(format_rule, registers, top, value), (wanted,))
            self.assertEqual(raised(format_rule, 3, 3, value), (InvalidRule,))

    def test_the_room_tells_which_rules_there_are(self):
        for rule in (("keep", 1), ("lot", 2)):
            text = f"{rule[0]} {rule[1]}"
            for registers, top, right in ((1, 0, True), (1, 1, False), (2, 1, True), (9, 8, True), (9, 9, False)):
                self.assertEqual(raised(format_rule, registers, top, rule), None if right else (InvalidRule,))
                self.assertEqual(raised(parse_rule, registers, top, text), None if right else (InvalidSyntax, 1))


class ConventionsTest(unittest.TestCase):

    def test_by_name(self):
        self.assertEqual([format_trace(trace="++-"), parse_trace(text="+2")], ["+2 -1", "++"])
        self.assertEqual([format_tree(tree=[1]), parse_tree(text="1")], ["1", [1]])
        self.assertEqual([format_row(row=[2, 1]), parse_row(text="2 1")], ["2 1", [2, 1]])
        self.assertEqual(format_rule(rule=("lot", 2), top=0, registers=3), "lot 2")
        self.assertEqual(parse_rule(text="lot 2", top=0, registers=3), ("lot", 2))

    def test_returned_lists_are_new(self):
        for function in (parse_tree, parse_row):
            function("1 1").append(9)
            self.assertEqual(function("1 1"), [1, 1])

    def test_arguments_stay_as_they_are(self):
        tree, row = [1, 2], [2, 1]
        format_tree(tree)
        format_row(row)
        self.assertEqual((tree, row), ([1, 2], [2, 1]))


if __name__ == "__main__":
    unittest.main()
