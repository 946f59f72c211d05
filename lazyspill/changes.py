"""Changes: programs, in which the number of registers changes on the way."""

from lazyspill.checks import (
    MOST_REGISTERS, MOST_TOP, check_machine, check_top, is_integer, is_list_of_integers,
)
from lazyspill.errors import InvalidPlan, InvalidProgram
from lazyspill.plans import counts_along
from lazyspill.traps import begins_of, common_numbers, plan_of_groups

MOST_ITEMS = 1000


def is_number_of_registers(top, value):
    """Return whether a value is a number of registers for this top."""
    return is_integer(value) and max(top, 1) <= value <= MOST_REGISTERS


def is_item(top, value):
    """Return whether any value is an item of programs for this top."""
    if isinstance(value, str):
        return value in ("+", "-")
    return is_number_of_registers(top, value)


def moments_along(registers, top, items):
    """Return the list of the tuples (depth, registers) at all moments, up to the first item that cannot stand there."""
    depth = 0
    moments = [(depth, registers)]
    for item in items:
        if not is_item(top, item) or (item == "-" and depth == 0):
            break
        if item == "+":
            depth += 1
        elif item == "-":
            depth -= 1
        else:
            registers = item
        moments.append((depth, registers))
    return moments


def checked_moments(registers, top, program):
    """Return the list of the tuples (depth, registers) at all moments, or raise InvalidProgram."""
    if not isinstance(program, list) or len(program) > MOST_ITEMS:
        raise InvalidProgram(None)
    moments = moments_along(registers, top, program)
    if len(moments) <= len(program):
        raise InvalidProgram(len(moments) - 1)
    return moments


def ends_along(top, moments):
    """Return the list of the tuples (lower end, upper end) for tuples (depth, registers)."""
    return [(max(depth - registers, 0), max(depth - top, 0)) for depth, registers in moments]


def is_program(top, value):
    """Return whether any value is a program for this top."""
    check_top(top, MOST_TOP)
    try:
        checked_moments(max(top, 1), top, value)
    except InvalidProgram:
        return False
    return True


def changing_ends(registers, top, program):
    """Return the list of the tuples (lower end, upper end) at all moments."""
    check_machine(registers, top)
    return ends_along(top, checked_moments(registers, top, program))


def changing_lazy(registers, top, program):
    """Return the lazy plan of a program."""
    plan = []
    number = 0
    for lower, upper in changing_ends(registers, top, program):
        number = min(max(number, lower), upper)
        plan.append(number)
    return plan


def fewest_along(top, moments):
    """Return the fewest traps for tuples (depth, registers)."""
    return len(begins_of(ends_along(top, moments))) - 1


def changing_traps(registers, top, program):
    """Return the fewest traps that a plan of a program can have."""
    check_machine(registers, top)
    return fewest_along(top, checked_moments(registers, top, program))


def changing_best(registers, top, program):
    """Return a plan of a program with the fewest traps and the fewest words."""
    ends = changing_ends(registers, top, program)
    begins = begins_of(ends)
    return plan_of_groups(ends, begins, common_numbers(ends, begins))


def changing_counts(registers, top, program, plan):
    """Return the tuple (written, read, traps) of a plan of a program."""
    ends = changing_ends(registers, top, program)
    if not is_list_of_integers(plan) or len(plan) != len(ends):
        raise InvalidPlan(None)
    for index, number in enumerate(plan):
        lower, upper = ends[index]
        if not lower <= number <= upper:
            raise InvalidPlan(index)
    return counts_along(plan)
