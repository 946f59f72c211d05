"""Point [38], with points [2], [3], [9], [10], [16], [34] to [37]: commands of the console."""

import random
import unittest
from itertools import groupby

from lazyspill.changes import changing_traps
from lazyspill.console import Console
from lazyspill.errors import (
    Empty, Fixed, InvalidCommand, InvalidRegisters, InvalidRule, InvalidSyntax, InvalidTop, NothingToUndo, SpillError,
)
from lazyspill.futures import parting, word_numbers
from lazyspill.machines import RuleStack, Stack
from lazyspill.rows import row_of
from lazyspill.texts import format_trace, parse_trace
from tests.samples import ANY_VALUES, HILL, MOST_REGISTERS, SLOPE, blocks_by_definition, levels_by_definition, raised

WRONG = (
    "", " ", "x", "Run +1", "run", "run ", "run +", "run 1", "run +0", "run +01", "run -0", "run ++1", "run +1 ", " run +1",
    "run  +1", "run +1  -1", "run +1,-1", "run +1 x", "run +1001", "run +500 -500 +1", "run +1 -1 lazy", "run+1", "run +1-1",
    "run +" + "1" * 31, "run +" + "0" * 30 + "1", "stack", "stack 1", "stack 1 ", "stack  1 0", "stack 1 0 ", "stack x 0",
    "stack 1 x", "stack 01 0", "stack 1 00", "stack -1 0", "stack 1 -1", "stack +1 0", "stack 1 0 0", "stack 1 0 keep",
    "stack 1 0 lot", "stack 1 0 keep x", "stack 1 0 keep -1", "stack 1 0 lazy 1", "stack 1 0 halving 0", "stack 1 0 keep 0 0",
    "stack 1 0 Lazy", "stack 1 0 lazy ", "stack 1 0  lazy", "stack 1 0 keep 01", "stack lazy 1 0", "stack 1 0 keep lazy",
    "stack " + "1" * 31 + " 0", "stack 1 0 keep " + "1" * 31, "stack 3 0 lot 2 ", "registers", "registers ", "registers x",
    "registers 1 2", "registers -1", "registers 01", "registers  1", "registers 1 ", "registers +1", "registers " + "1" * 31,
    "undo 1", "undo ", " undo", "undo undo", "state ", "state 1", "counts ", "counts 1", "row 1", "row ", "numbers 1",
    "numbers ", "fewest 1", "fewest ", "part", "part ", "part x", "part 1", "part +1 +1", "part -1", "part +1 -2", "part +0",
    "part +1 ", "part  +1", "part +1001", "part +500 -500 +1", "part +01", "part +1 alike", "State", "COUNTS", "none", "ok",
    "+1", "push", "pop", "lazy", "1 0", "stackk 1 0", "runs +1", "run +1\n", "+", "run - 1", "run +1 - 1",
)


def text_of(numbers):
    return " ".join(map(str, numbers)) or "none"


class Model:
    """A console that makes the calls that the commands stand for."""

    def __init__(self):
        self.renew(Stack(1, 0), 1)

    def renew(self, stack, first):
        self.stack, self.first, self.older = stack, first, []
        return "ok"

    def execute(self, command):
        word, *behind = command.split(" ")
        trace = "".join(item for item in self.stack.program if type(item) is str)
        top = self.stack.top
        if word == "stack":
            registers, top = int(behind[0]), int(behind[1])
            if len(behind) == 2:
                return self.renew(Stack(registers, top), registers)
            return self.renew(RuleStack(registers, top, (behind[2], *map(int, behind[3:]))), registers)
        if word in ("run", "registers"):
            twin = self.stack.twin()
            if word == "run":
                steps = "".join(run[0] * int(run[1:]) for run in behind)
                moved = [twin.push() if step == "+" else twin.pop() for step in steps]
            else:
                moved = [twin.set_registers(int(behind[0]))]
            self.older.append(self.stack)
            self.stack = twin
            return str(sum(map(abs, moved)))
        if word == "undo":
            if not self.older:
                raise NothingToUndo("")
            self.stack = self.older.pop()
            return "ok"
        if word == "part":
            found = parting(trace, parse_trace(" ".join(behind)), top)
            return "alike" if found is None else f"{found[0][0]}{len(found[0])} {found[1]}"
        return {
            "state": lambda: ", ".join(self.stack.described()),
            "counts": lambda: text_of([self.stack.written, self.stack.read, self.stack.traps]),
            "row": lambda: text_of(row_of(trace, top)),
            "numbers": lambda: text_of(word_numbers(trace, top)),
            "fewest": lambda: str(changing_traps(self.first, top, self.stack.program)),
        }[word]()


def outcome(console, command):
    """Return the result of a command, or its error as a tuple."""
    try:
        return console.execute(command)
    except SpillError as error:
        return (type(error), *vars(error).values())


def told(console):
    """Return the results of all commands that change nothing."""
    return [outcome(console, command) for command in ("state", "counts", "row", "numbers", "fewest", "part +2 -1")]


def ready(*commands):
    console = Console()
    for command in commands:
        console.execute(command)
    return console


def some_command(source):
    signs = "+++--"
    runs = " ".join(source.choice(signs) + str(source.randint(1, 5)) for _ in range(source.randint(1, 4)))
    trace = "".join(source.choice("++-") for _ in range(source.randint(1, 9)))
    text = " ".join(f"{sign}{len(list(steps))}" for sign, steps in groupby(trace))
    kind = source.random()
    if kind < 0.05:
        rule = source.choice(("", "", " lazy", " halving", f" keep {source.randint(0, 4)}", f" lot {source.randint(0, 4)}"))
        return f"stack {source.randint(0, 6)} {source.choice((0, 0, 1, 2))}{rule}"
    if kind < 0.5:
        return f"run {runs}"
    if kind < 0.6:
        return f"registers {source.randint(0, 6)}"
    if kind < 0.75:
        return "undo"
    if kind < 0.85:
        return f"part {text}" if trace.startswith("+") and raised(parse_trace, text) is None else "part +1"
    return source.choice(("state", "counts", "row", "numbers", "fewest"))


class ExamplesTest(unittest.TestCase):

    def test_examples(self):
        console = Console()
        commands = ["stack 3 0", "run +5 -3", "state", "counts", "row", "numbers", "part +2", "undo"]
        wanted = ["ok", "2", "depth 2, memory 2", "2 0 2", "1 1 1 1 1", "4 3", "+1 1", "ok"]
        self.assertEqual([console.execute(command) for command in commands], wanted)
        self.assertEqual(raised(Console().execute, "run +1 -2"), (Empty,))


class CommandsTest(unittest.TestCase):

    def test_a_new_console(self):
        self.assertEqual(told(Console()), ["depth 0, memory 0", "0 0 0", "none", "none", "0", "+2 2"])
        self.assertEqual(raised(Console().execute, "undo"), (NothingToUndo,))
        console = Console()
        self.assertEqual([console.execute("run +2"), console.execute("state")], ["1", "depth 2, memory 1"])

    def test_against_the_calls(self):
        source = random.Random(12)
        for turn in range(150):
            console, model = Console(), Model()
            for again in range(25):
                command = some_command(source)
                self.assertEqual(outcome(console, command), outcome(model, command), command)
            self.assertEqual(told(console), told(model))

    def test_rules(self):
        for rule, line in (("lazy", "memory 1"), ("halving", "memory 2"), ("keep 1", "memory 3"), ("lot 2", "memory 2")):
            console = ready(f"stack 3 0 {rule}")
            self.assertEqual(console.execute("run +4"), line[-1])
            self.assertEqual(console.execute("state"), f"depth 4, {line}, rule {rule}")
            self.assertEqual(raised(console.execute, "registers 2"), (Fixed,))
            self.assertEqual(raised(console.execute, "registers 0"), (Fixed,))

    def test_moved_words_of_both_kinds_count(self):
        console = ready("stack 1 0")
        self.assertEqual([console.execute(command) for command in ("run +4 -3 +1", "counts")], ["5", "3 2 5"])
        console = ready("stack 9 0", "run +9")
        self.assertEqual([console.execute(command) for command in ("registers 1", "counts", "fewest")], ["8", "8 0 1", "1"])
        self.assertEqual(console.execute("run -9"), "8")

    def test_runs_with_any_signs(self):
        console = ready("stack 3 0")
        self.assertEqual([console.execute(f"run {text}") for text in ("+2 +3", "-1 -2 +1 -1 +1", "+1")], ["2", "0", "0"])
        self.assertEqual(console.execute("state"), "depth 4, memory 2")
        self.assertEqual(console.execute("run +500 -500"), "996")
        self.assertEqual(console.execute("undo"), "ok")
        self.assertEqual(console.execute("state"), "depth 4, memory 2")

    def test_undo(self):
        console = ready("stack 2 0", "run +3 -1 +2", "registers 1", "run +1 -3")
        states = []
        for turn in range(3):
            states.append(console.execute("state"))
            self.assertEqual(console.execute("undo"), "ok")
        states.append(console.execute("state"))
        self.assertEqual(states, ["depth 2, memory 2", "depth 4, memory 3", "depth 4, memory 2", "depth 0, memory 0"])
        self.assertEqual(raised(console.execute, "undo"), (NothingToUndo,))
        self.assertEqual([console.execute("run +1"), console.execute("stack 2 0")], ["0", "ok"])
        self.assertEqual(raised(console.execute, "undo"), (NothingToUndo,))

    def test_fewest_goes_by_the_first_number_of_registers(self):
        console = ready("stack 3 0", "run +3", "registers 1", "run +1", "registers 4", "run -1")
        self.assertEqual(console.execute("fewest"), str(changing_traps(3, 0, ["+", "+", "+", 1, "+", 4, "-"])))
        console = ready("stack 2 1", "registers 7", "run +6")
        self.assertEqual([console.execute("fewest"), console.execute("counts")], ["0", "0 0 0"])
        console = ready("registers 9", "run +9")
        self.assertEqual(console.execute("fewest"), "0")

    def test_rows_numbers_and_parting_go_by_pushes_and_pops(self):
        for trace in (HILL, SLOPE, "+++"):
            for top in (0, 1, 2):
                console = ready(f"stack 3 {top}", "registers 4", f"run {format_trace(trace)}", "registers 9")
                self.assertEqual(console.execute("row"), text_of(row_of(trace, top)))
                self.assertEqual(console.execute("numbers"), text_of(word_numbers(trace, top)))
                self.assertEqual(console.execute(f"part {format_trace(trace)}"), "alike")
                for other in ("+", "+++++", "+++-", "+-"):
                    future, registers = parting(trace, other, top) or ("", 0)
                    wanted = f"{future[0]}{len(future)} {registers}" if future else "alike"
                    self.assertEqual(console.execute(f"part {format_trace(other)}"), wanted)

    def test_1000_steps_and_a_few_more(self):
        console = ready("stack 9 1", "run +500 -400")
        self.assertEqual(console.execute("run +100"), "92")
        self.assertEqual(len(console.execute("row").split()), 499)
        # Callers keep to 1,000 steps or go somewhat beyond, which is no error.
        console.execute("run -2 +3")
        self.assertEqual(console.execute("state"), "depth 201, memory 192")
        self.assertEqual([len(console.execute(word).split()) for word in ("row", "numbers")], [499, 201])
        # With 102 registers both have as many words in registers as there are.
        self.assertEqual(console.execute("part +201"), "+1 103")
        levels = levels_by_definition("+" * 500 + "-" * 400 + "+" * 100 + "--+++", 1)
        self.assertEqual(console.execute("fewest"), str(len(blocks_by_definition(levels, 8)) - 1))

    def test_great_numbers(self):
        most = str(MOST_REGISTERS)
        console = ready(f"stack {most} {most}", "run +3", f"registers {most}")
        self.assertEqual([console.execute("state"), console.execute("fewest")], ["depth 3, memory 0", "0"])
        console = ready(f"stack {most} 0 keep {most}")
        self.assertEqual(console.execute("state"), f"depth 0, memory 0, rule keep {most}")


class ErrorsTest(unittest.TestCase):

    def test_wrong_commands(self):
        console = ready("stack 3 0", "run +5 -2")
        kept = told(console)
        for command in WRONG:
            self.assertEqual(raised(console.execute, command), (InvalidCommand,), command)
        self.assertEqual(told(console), kept)
        self.assertEqual(console.execute("undo"), "ok")

    def test_any_values(self):
        for value in ANY_VALUES:
            if value in ("run +1", "state", "stack 1 0"):
                self.assertIsNone(raised(Console().execute, value))
            else:
                wanted = (NothingToUndo,) if value == "undo" else (InvalidCommand,)
                self.assertEqual(raised(Console().execute, value), wanted, value)

    def test_one_word_changed_left_out_or_put_in(self):
        right = ("stack 3 0", "stack 3 0 lazy", "stack 3 0 keep 1", "run +2 -1", "registers 2", "part +2 -1", "state")
        for command in right:
            words = command.split(" ")
            for index in range(len(words) + 1):
                for other in ("", "x", "+", "Keep", "undo", "1.5", "+00"):
                    changed = [*words[:index], other, *words[index:]]
                    self.assertEqual(raised(ready().execute, " ".join(changed)), (InvalidCommand,))
                    if index < len(words):
                        changed = [*words[:index], other, *words[index + 1:]]
                        error = (NothingToUndo,) if changed == ["undo"] else (InvalidCommand,)
                        self.assertEqual(raised(ready().execute, " ".join(changed)), error, changed)

    def test_errors_of_the_calls(self):
        console = ready("stack 3 0", "run +5 -2", "registers 2")
        kept = told(console)
        for command, error in (
            ("stack 0 0", InvalidRegisters), ("stack 0 1", InvalidRegisters), ("stack 1 2", InvalidTop),
            ("stack 1 2 keep 9", InvalidTop), ("stack 3 0 keep 4", InvalidRule), ("stack 3 0 lot 0", InvalidRule),
            ("stack 3 0 lot 5", InvalidRule), ("stack 0 0 keep 4", InvalidRegisters), ("registers 0", InvalidRegisters),
            ("run -4", Empty), ("run +1 -5 +9", Empty), ("run -3 +5 -6", Empty), ("run -1000", Empty),
        ):
            self.assertEqual(raised(console.execute, command), (error,), command)
            self.assertEqual(told(console), kept)
        self.assertEqual([console.execute("undo"), console.execute("undo")], ["ok", "ok"])
        self.assertEqual(raised(console.execute, "undo"), (NothingToUndo,))
        console = ready("stack 5 3")
        self.assertEqual(raised(console.execute, "registers 2"), (InvalidRegisters,))
        self.assertEqual(console.execute("registers 3"), "0")

    def test_a_top_above_the_range_of_the_calls(self):
        console = ready("stack 2000 1001", "run +3")
        for command in ("row", "numbers", "part +3"):
            self.assertEqual(raised(console.execute, command), (InvalidTop,))
        self.assertEqual(raised(console.execute, "part +3 +1"), (InvalidCommand,))
        self.assertEqual([console.execute("state"), console.execute("fewest")], ["depth 3, memory 0", "0"])
        console = ready("stack 2000 1000", "run +3")
        self.assertEqual([console.execute(command) for command in ("row", "numbers", "part +3")], ["none", "0 0 0", "alike"])

    def test_no_text_error_leaves_the_console(self):
        self.assertFalse(issubclass(InvalidCommand, InvalidSyntax))
        self.assertEqual(raised(Console().execute, "part +1 -2"), (InvalidCommand,))


class ConventionsTest(unittest.TestCase):

    def test_by_name(self):
        self.assertEqual(Console().execute(command="state"), "depth 0, memory 0")

    def test_consoles_are_their_own(self):
        first, second = Console(), Console()
        first.execute("run +3")
        self.assertEqual(second.execute("state"), "depth 0, memory 0")


if __name__ == "__main__":
    unittest.main()
