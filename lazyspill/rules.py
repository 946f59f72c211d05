"""Rules: how many words a machine moves at a trap, without knowing later steps."""

from lazyspill.checks import check_machine, check_number, checked_depths, is_integer
from lazyspill.errors import Bounded, InvalidRule
from lazyspill.traces import levels_above

MOST_FORCED = 5
MOST_RESTLESS = 20


def fits_room(room, value):
    """Return whether any value is a rule for machines with this room."""
    if not isinstance(value, tuple) or not 1 <= len(value) <= 2 or not isinstance(value[0], str):
        return False
    if len(value) == 1:
        return value[0] in ("lazy", "halving")
    word, number = value
    if not is_integer(number):
        return False
    return (word == "keep" and 0 <= number <= room) or (word == "lot" and 1 <= number <= room + 1)


def check_rule(room, rule):
    """Raise InvalidRule unless a value is a rule for machines with this room."""
    if not fits_room(room, rule):
        raise InvalidRule("a value is not a rule for the machine")


def is_rule(registers, top, value):
    """Return whether any value is a rule for this machine."""
    check_machine(registers, top)
    return fits_room(registers - top, value)


def block_behind(block, room, level):
    """Return the tuple (least, greatest) of the levels of the present block, the level of the next moment included."""
    least, greatest = block
    if level > greatest:
        return (least, level) if level - least <= room else (level, level)
    if level < least:
        return (level, greatest) if greatest - level <= room else (level, level)
    return block


def number_behind(rule, room, number, level, block):
    """Return the number of a rule at the next moment, for the level and the present block at this moment."""
    lower = level - room if level > room else 0
    if lower <= number <= level:
        return number
    word = rule[0]
    if word == "lazy":
        return lower if number < lower else level
    if word == "keep":
        return max(level - rule[1], 0)
    if word == "lot":
        return number + rule[1] if number < lower else max(number - rule[1], 0)
    least, greatest = block
    return (max(greatest - room, 0) + least) // 2


def plan_of_rule(trace, registers, top, rule):
    """Return the plan of a rule."""
    depths = checked_depths(trace)
    check_machine(registers, top)
    room = registers - top
    check_rule(room, rule)
    plan = []
    number = 0
    block = (0, 0)
    for level in levels_above(depths, top):
        block = block_behind(block, room, level)
        number = number_behind(rule, room, number, level, block)
        plan.append(number)
    return plan


def most_in_block(registers, top, rule):
    """Return the greatest number of traps of a rule in a block, None for as many as one likes."""
    check_machine(registers, top)
    room = registers - top
    check_rule(room, rule)
    word = rule[0]
    if word == "halving":
        return (room + 1).bit_length()
    if word == "keep" and (room + 1) % (rule[1] + 1) > 0:
        return None
    if word == "lot" and rule[1] > 1:
        return None
    return room + 1


class Walk:
    """Levels that are chosen step by step, in view of what a rule does at them."""

    def __init__(self, room, manner):
        self.room = room
        self.manner = manner
        self.steps = []
        self.level = 0
        self.number = 0
        self.block = (0, 0)
        # The traps of the rule, and the fewest traps.
        self.trapped = 0
        self.needed = 0

    def step(self, rising):
        """Go to the next level above or below."""
        self.steps.append("+" if rising else "-")
        self.level += 1 if rising else -1
        self.block = block_behind(self.block, self.room, self.level)
        # Each step changes the level, so a block with only one level is a new one.
        if self.block[0] == self.block[1]:
            self.needed += 1
        number = number_behind(self.manner, self.room, self.number, self.level, self.block)
        if number != self.number:
            self.trapped += 1
        self.number = number

    def is_low(self):
        """Return whether at least half of the other common numbers of the present block are above the number."""
        least, greatest = self.block
        return 2 * self.number <= max(greatest - self.room, 0) + least


def forcing_trace(registers, top, rule, traps):
    """Return a trace with so many fewest traps, on which a rule has the most traps that no rule can avoid."""
    check_machine(registers, top)
    room = registers - top
    check_rule(room, rule)
    check_number(traps, 1, MOST_FORCED)
    enough = traps * (room + 1).bit_length()
    walk = Walk(room, rule)
    while walk.trapped < enough or walk.needed < traps:
        # Each trap leaves the greater part of the common numbers; when only the present number is
        # left, the next step up leads to a new block, and to a trap.
        walk.step(walk.trapped >= enough or walk.is_low())
    return "+" * top + "".join(walk.steps)


def restless_trace(registers, top, rule, many):
    """Return a trace whose fewest number of traps is 1, and on which a rule has at least so many traps."""
    check_machine(registers, top)
    room = registers - top
    check_rule(room, rule)
    check_number(many, 1, MOST_RESTLESS)
    if most_in_block(registers, top, rule) is not None:
        raise Bounded("the rule has a greatest number of traps in a block")
    # To and fro between the ends of a block there is a trap each way unless the rule hits on the only
    # common number, the least level. With these ones it never does.
    least = 1 if rule[0] == "keep" else rule[1] - 1
    walk = Walk(room, rule)
    rising = True
    while walk.trapped < many:
        walk.step(rising)
        if walk.level == least:
            rising = True
        elif walk.level == least + room:
            rising = False
    return "+" * top + "".join(walk.steps)
