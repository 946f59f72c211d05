"""Texts: traces, trees, rows and rules as words with single spaces between."""

from lazyspill.checks import MOST_STEPS, check_machine, checked_depths
from lazyspill.errors import InvalidSyntax
from lazyspill.rows import MOST_ITEMS, check_row
from lazyspill.rules import check_rule, fits_room
from lazyspill.trees import MOST_CALLS, check_tree

MOST_DIGITS = 30


def number_of(word):
    """Return the number that a word is, or None if it is none."""
    if len(word) > MOST_DIGITS or not word.isascii() or not word.isdigit():
        return None
    return None if word[0] == "0" and len(word) > 1 else int(word)


def run_of(word):
    """Return the tuple (sign, number) of the run that a word is, or None if it is none."""
    number = number_of(word[1:])
    if word[:1] not in ("+", "-") or number is None or number == 0:
        return None
    return (word[0], number)


def rule_of(words):
    """Return the rule that some words are, whatever its number, or None if they are none."""
    if len(words) == 1 and words[0] in ("lazy", "halving"):
        return (words[0],)
    if len(words) == 2 and words[0] in ("keep", "lot"):
        number = number_of(words[1])
        return None if number is None else (words[0], number)
    return None


def text_of_numbers(numbers):
    """Return numbers with single spaces between."""
    return " ".join([str(number) for number in numbers])


def text_of_rule(rule):
    """Return the text of a rule."""
    return " ".join([str(part) for part in rule])


def words_of(text):
    """Return the list of the words of a text, or raise InvalidSyntax unless a value is a string."""
    if not isinstance(text, str):
        raise InvalidSyntax(None)
    return text.split(" ") if text else []


def format_trace(trace):
    """Return the text of a trace."""
    checked_depths(trace)
    # Between two runs the sign changes.
    runs = trace.replace("+-", "+ -").replace("-+", "- +").split()
    return " ".join([f"{run[0]}{len(run)}" for run in runs])


def parse_trace(text):
    """Return the trace with this text."""
    runs = []
    steps = depth = 0
    ahead = ""
    for index, word in enumerate(words_of(text)):
        run = run_of(word)
        if run is None:
            raise InvalidSyntax(index)
        sign, number = run
        steps += number
        depth += number if sign == "+" else -number
        if sign == ahead or depth < 0 or steps > MOST_STEPS:
            raise InvalidSyntax(index)
        runs.append(sign * number)
        ahead = sign
    return "".join(runs)


def format_tree(tree):
    """Return the text of a tree."""
    check_tree(tree)
    return text_of_numbers(tree)


def parse_tree(text):
    """Return the tree with this text."""
    tree = []
    ahead = 0
    for index, word in enumerate(words_of(text)):
        level = number_of(word)
        if level is None or not 1 <= level <= ahead + 1 or index == MOST_CALLS:
            raise InvalidSyntax(index)
        tree.append(level)
        ahead = level
    return tree


def format_row(row):
    """Return the text of a row."""
    check_row(row)
    return text_of_numbers(row)


def parse_row(text):
    """Return the row with this text."""
    row = []
    for index, word in enumerate(words_of(text)):
        item = number_of(word)
        if item is None or item < 1 or (row and item > row[-1]) or index == MOST_ITEMS:
            raise InvalidSyntax(index)
        row.append(item)
    return row


def format_rule(registers, top, rule):
    """Return the text of a rule."""
    check_machine(registers, top)
    check_rule(registers - top, rule)
    return text_of_rule(rule)


def parse_rule(registers, top, text):
    """Return the rule with this text."""
    check_machine(registers, top)
    words = words_of(text)
    if not words or words[0] not in ("lazy", "halving", "keep", "lot"):
        raise InvalidSyntax(0)
    rule = rule_of(words[:2])
    # The first word is right, so what is wrong is the next one: another word, one too many, or none.
    if not fits_room(registers - top, rule):
        raise InvalidSyntax(1)
    if len(words) > 2:
        raise InvalidSyntax(2)
    return rule
