"""Machines: stacks that are run step by step."""

from lazyspill.changes import is_item, is_number_of_registers
from lazyspill.checks import check_machine, check_number, is_integer
from lazyspill.errors import Empty, Fixed, InvalidProgram, InvalidRegisters, NothingToUndo, Refused
from lazyspill.rules import block_behind, check_rule, number_behind
from lazyspill.texts import text_of_rule

# The state of a stack is a tuple (registers, depth, words in memory, written, read, traps, block): what its
# properties tell, and the least and the greatest level of the present block, which only halving needs.


def are_in_one_state(one, other):
    """Return whether two stacks have the same top and are in the same state."""
    return one._top == other._top and one._states[-1] == other._states[-1]


class Stack:
    """A stack that moves words as the lazy plan does."""

    def __init__(self, registers, top):
        check_machine(registers, top)
        self._top = top
        # The calls that are not reverted, and the states ahead of the first and behind each of them.
        self._items = []
        self._states = [(registers, 0, 0, 0, 0, 0, (0, 0))]

    @property
    def registers(self):
        """The present number of registers."""
        return self._states[-1][0]

    @property
    def top(self):
        """The number of topmost words that must be in registers."""
        return self._top

    @property
    def depth(self):
        """The number of words on the stack."""
        return self._states[-1][1]

    @property
    def memory(self):
        """The number of words in memory."""
        return self._states[-1][2]

    @property
    def written(self):
        """The number of words that were written."""
        return self._states[-1][3]

    @property
    def read(self):
        """The number of words that were read."""
        return self._states[-1][4]

    @property
    def traps(self):
        """The number of calls that moved words."""
        return self._states[-1][5]

    @property
    def program(self):
        """The list of the calls as items of a program."""
        return list(self._items)

    def __len__(self):
        return len(self._items)

    def __eq__(self, other):
        return type(self) is type(other) and are_in_one_state(self, other)

    def _placed(self, number, block, registers, level):
        """Return the tuple (words in memory, block) at the next moment, for the ones at the moment ahead."""
        return (min(max(number, level - registers + self._top), level), block)

    def _behind(self, state, item):
        """Return the tuple (moved words, state) behind the call of an item, or raise the error of this call."""
        registers, depth, number, written, read, traps, block = state
        if item == "+":
            depth += 1
        elif item == "-":
            if depth == 0:
                raise Empty("there is no word to pop")
            depth -= 1
        else:
            registers = item
        after, block = self._placed(number, block, registers, max(depth - self._top, 0))
        moved = after - number
        if moved > 0:
            written += moved
        else:
            read -= moved
        if moved != 0:
            traps += 1
        return (moved, (registers, depth, after, written, read, traps, block))

    def _call(self, item):
        """Do the call of an item, and return the moved words."""
        moved, state = self._behind(self._states[-1], item)
        self._items.append(item)
        self._states.append(state)
        return moved

    def _handed(self, other):
        """Return another stack, with the calls and the states of this one."""
        other._items = list(self._items)
        other._states = list(self._states)
        return other

    def _lines(self):
        """Return the strings that describe each stack."""
        return [f"depth {self.depth}", f"memory {self.memory}"]

    def push(self):
        """Push a word, and return how many words are written, or read as a number below 0."""
        return self._call("+")

    def pop(self):
        """Pop a word, and return how many words are written, or read as a number below 0."""
        return self._call("-")

    def set_registers(self, number):
        """Have so many registers from now on, and return how many words are written, or read as a number below 0."""
        if not is_number_of_registers(self._top, number):
            raise InvalidRegisters("number is not an integer in its range")
        return self._call(number)

    def undo(self):
        """Revert the last call that is not reverted."""
        if not self._items:
            raise NothingToUndo("there is no call to revert")
        del self._items[-1]
        del self._states[-1]

    def would(self, *items):
        """Return the list of what the calls of some items would return, one after another."""
        for index, item in enumerate(items):
            if not is_item(self._top, item):
                raise InvalidProgram(index)
        state = self._states[-1]
        found = []
        for item in items:
            moved, state = self._behind(state, item)
            found.append(moved)
        return found

    def twin(self):
        """Return a stack of the same class in the same state."""
        return self._handed(Stack(self.registers, self._top))

    def described(self):
        """Return the list of the strings that describe the stack."""
        return self._lines()


class RuleStack(Stack):
    """A stack that moves words by a rule."""

    def __init__(self, registers, top, rule):
        Stack.__init__(self, registers, top)
        check_rule(registers - top, rule)
        self._rule = rule

    @property
    def rule(self):
        """The rule."""
        return self._rule

    def __eq__(self, other):
        return type(self) is type(other) and are_in_one_state(self, other) and self._rule == other._rule

    def _placed(self, number, block, registers, level):
        """Return the tuple (words in memory, block) at the next moment, for the ones at the moment ahead."""
        room = registers - self._top
        # Stacks with another rule are equal whatever their blocks are.
        if self._rule[0] == "halving":
            block = block_behind(block, room, level)
        return (number_behind(self._rule, room, number, level, block), block)

    def _behind(self, state, item):
        """Return the tuple (moved words, state) behind the call of an item, or raise the error of this call."""
        if is_integer(item):
            raise Fixed("the number of registers of this stack cannot change")
        return super()._behind(state, item)

    def _rule_line(self):
        """Return the string that describes the rule."""
        return f"rule {text_of_rule(self._rule)}"

    def set_registers(self, number):
        """Raise Fixed."""
        raise Fixed("the number of registers of this stack cannot change")

    def would(self, *items):
        """Return the list of what the calls of some items would return; Fixed when an integer has its turn."""
        return super().would(*items)

    def twin(self):
        """Return a stack of the same class in the same state."""
        return self._handed(RuleStack(self.registers, self._top, self._rule))

    def described(self):
        """Return the list of the strings that describe the stack."""
        return self._lines() + [self._rule_line()]


class LimitStack(Stack):
    """A stack that moves words as the lazy plan does, but not more than so many in all."""

    def __init__(self, registers, top, most):
        Stack.__init__(self, registers, top)
        check_number(most, 0, None)
        self._most = most

    @property
    def most(self):
        """The greatest number of words that may be moved in all."""
        return self._most

    def __eq__(self, other):
        return type(self) is type(other) and are_in_one_state(self, other) and self._most == other._most

    def _behind(self, state, item):
        """Return the tuple (moved words, state) behind the call of an item, or raise the error of this call."""
        moved, after = super()._behind(state, item)
        _, _, _, written, read, _, _ = after
        if written + read > self._most:
            raise Refused(written + read)
        return (moved, after)

    def _left_line(self):
        """Return the string that describes how many words can still be moved."""
        return f"left {self._most - self.written - self.read}"

    def twin(self):
        """Return a stack of the same class in the same state."""
        return self._handed(LimitStack(self.registers, self._top, self._most))

    def described(self):
        """Return the list of the strings that describe the stack."""
        return self._lines() + [self._left_line()]


class LimitRuleStack(RuleStack, LimitStack):
    """A stack that moves words by a rule, but not more than so many in all."""

    def __init__(self, registers, top, rule, most):
        RuleStack.__init__(self, registers, top, rule)
        LimitStack.__init__(self, registers, top, most)

    def __eq__(self, other):
        if type(self) is type(other) and are_in_one_state(self, other):
            return self._rule == other._rule and self._most == other._most
        return False

    def set_registers(self, number):
        """Raise Fixed."""
        raise Fixed("the number of registers of this stack cannot change")

    def twin(self):
        """Return a stack of the same class in the same state."""
        return self._handed(LimitRuleStack(self.registers, self._top, self._rule, self._most))

    def described(self):
        """Return the list of the strings that describe the stack."""
        return self._lines() + [self._rule_line(), self._left_line()]
