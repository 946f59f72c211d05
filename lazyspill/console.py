"""The console: a stack that is run by commands."""

from lazyspill.changes import fewest_along, moments_along
from lazyspill.checks import MOST_STEPS, MOST_TOP, check_top, checked_depths, depths_along
from lazyspill.errors import InvalidCommand, InvalidSyntax, NothingToUndo
from lazyspill.futures import parting_at, word_numbers_at
from lazyspill.machines import RuleStack, Stack
from lazyspill.rows import row_along
from lazyspill.texts import number_of, parse_trace, rule_of, run_of, text_of_numbers
from lazyspill.traces import levels_above


def runs_of(words):
    """Return the list of the runs that some words are, or raise InvalidCommand."""
    runs = [run_of(word) for word in words]
    if not runs or None in runs or sum([number for _, number in runs]) > MOST_STEPS:
        raise InvalidCommand("these words are not one or more runs")
    return runs


def numbers_of(words):
    """Return the list of the numbers that some words are, or raise InvalidCommand."""
    numbers = [number_of(word) for word in words]
    if None in numbers:
        raise InvalidCommand("a word is not a number")
    return numbers


def text_or_none(numbers):
    """Return the text of some numbers, or the word for no numbers."""
    return text_of_numbers(numbers) if numbers else "none"


class Console:
    """A console with a stack."""

    def __init__(self):
        self._stack = Stack(1, 0)
        self._first = 1
        # For each command that can be undone, how many calls of the stack it made.
        self._calls = []

    def execute(self, command):
        """Run a command, and return its result as a string."""
        if not isinstance(command, str):
            raise InvalidCommand("a command is a string")
        words = command.split(" ")
        word = words[0]
        behind = words[1:]
        if word == "stack" and len(behind) >= 2:
            return self._renewed(behind)
        if word == "run":
            return self._run(runs_of(behind))
        if word == "registers" and len(behind) == 1:
            return self._set_registers(numbers_of(behind)[0])
        if word == "part":
            return self._parting(" ".join(behind))
        if not behind:
            return self._told(word)
        raise InvalidCommand("this is not the form of a command")

    def _renewed(self, words):
        """Take a new stack."""
        registers, top = numbers_of(words[:2])
        if len(words) == 2:
            stack = Stack(registers, top)
        else:
            rule = rule_of(words[2:])
            if rule is None:
                raise InvalidCommand("the words at the end are not a rule")
            stack = RuleStack(registers, top, rule)
        self._stack = stack
        self._first = registers
        self._calls = []
        return "ok"

    def _run(self, runs):
        """Do the steps of some runs, and return how many words they move."""
        steps = "".join([sign * number for sign, number in runs])
        # If one of the steps raises an error, none of them is done.
        moved = self._stack.would(*steps)
        for step in steps:
            if step == "+":
                self._stack.push()
            else:
                self._stack.pop()
        self._calls.append(len(steps))
        return str(sum([abs(words) for words in moved]))

    def _set_registers(self, number):
        """Have so many registers from now on, and return how many words are moved."""
        moved = self._stack.set_registers(number)
        self._calls.append(1)
        return str(abs(moved))

    def _undo(self):
        """Revert the last command that moved on."""
        if not self._calls:
            raise NothingToUndo("there is no command to revert")
        for _ in range(self._calls[-1]):
            self._stack.undo()
        del self._calls[-1]
        return "ok"

    def _told(self, word):
        """Return the result of a command of one word."""
        if word == "undo":
            return self._undo()
        if word == "state":
            return ", ".join(self._stack.described())
        if word == "counts":
            return text_of_numbers([self._stack.written, self._stack.read, self._stack.traps])
        if word == "row":
            return text_or_none(row_along(levels_above(self._depths(), self._stack.top)))
        if word == "numbers":
            return text_or_none(word_numbers_at(self._depths(), self._stack.top))
        if word == "fewest":
            top = self._stack.top
            return str(fewest_along(top, moments_along(self._first, top, self._stack.program)))
        raise InvalidCommand("this is not the form of a command")

    def _depths(self):
        """Return the list of the depths along all pushes and pops of the stack, for which top must be in its range."""
        check_top(self._stack.top, MOST_TOP)
        return depths_along([item for item in self._stack.program if isinstance(item, str)], 0)

    def _parting(self, text):
        """Return how the trace of all pushes and pops parts from the trace with this text."""
        try:
            other = parse_trace(text)
        except InvalidSyntax:
            raise InvalidCommand("the words at the end are not the text of a trace") from None
        if not other:
            raise InvalidCommand("there is no run")
        found = parting_at(self._depths(), checked_depths(other), self._stack.top)
        if found is None:
            return "alike"
        length, sign, registers = found
        return f"{sign}{length} {registers}"
