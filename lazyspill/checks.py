"""What the parameters that many functions share must be, and the errors if they are not."""

from lazyspill.errors import InvalidNumber, InvalidRegisters, InvalidTop, InvalidTrace

MOST_STEPS = 1000
MOST_REGISTERS = 10 ** 30 - 1
MOST_TOP = 1000


def is_integer(value):
    """Return whether a value is an integer."""
    # For Python True and False are integers, for the document they are not.
    return isinstance(value, int) and not isinstance(value, bool)


def is_list_of_integers(value):
    """Return whether a value is a list that contains nothing but integers."""
    if not isinstance(value, list):
        return False
    # Not by is_integer: lists are long, and a call for each item takes most of the time.
    return not [item for item in value if item is True or item is False or not isinstance(item, int)]


def depths_along(steps, depth):
    """Return the list of the depths from a depth on, up to the first step that is none or pops an empty stack."""
    depths = [depth]
    for step in steps:
        if step == "+":
            depth += 1
        elif step == "-" and depth > 0:
            depth -= 1
        else:
            break
        depths.append(depth)
    return depths


def checked_depths(trace):
    """Return the list of the depths at all moments, or raise InvalidTrace unless a value is a trace."""
    if not isinstance(trace, str) or len(trace) > MOST_STEPS:
        raise InvalidTrace(None)
    depths = depths_along(trace, 0)
    if len(depths) <= len(trace):
        raise InvalidTrace(len(depths) - 1)
    return depths


def check_top(top, most):
    """Raise InvalidTop unless a value is an integer from 0 to most."""
    if not is_integer(top) or not 0 <= top <= most:
        raise InvalidTop("top is not an integer in its range")


def check_registers(registers):
    """Raise InvalidRegisters unless a value is a number of registers."""
    if not is_integer(registers) or not 1 <= registers <= MOST_REGISTERS:
        raise InvalidRegisters("registers is not an integer in its range")


def check_machine(registers, top):
    """Raise InvalidRegisters or InvalidTop unless there is a machine with these numbers."""
    check_registers(registers)
    check_top(top, registers)


def check_number(number, least, most):
    """Raise InvalidNumber unless a value is an integer from least to most, or from least on if most is None."""
    if not is_integer(number) or number < least or (most is not None and number > most):
        raise InvalidNumber("a number is not an integer in its range")
