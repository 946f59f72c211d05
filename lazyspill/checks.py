"""What the parameters that many functions share must be, and the errors if they are not."""

from lazyspill.errors import InvalidNumber, InvalidRegisters, InvalidTop, InvalidTrace

MOST_STEPS = 1000
MOST_REGISTERS = 10 ** 30 - 1
MOST_TOP = 1000


def is_integer(value):
    """Return whether a value is an integer."""
    # For Python True and False are integers, for the document they are not.
    return isinstance(value, int) and not isinstance(value, bool)


def is_list_of_integers(value):
    """Return whether a value is a list that contains nothing but integers."""
    return isinstance(value, list) and all([is_integer(item) for item in value])


def wrong_step(text):
    """Return the index of the first character that is no step or pops an empty stack, or None."""
    depth = 0
    for index, step in enumerate(text):
        if step == "+":
            depth += 1
        elif step == "-" and depth > 0:
            depth -= 1
        else:
            return index
    return None


def check_trace(trace):
    """Raise InvalidTrace unless a value is a trace."""
    if not isinstance(trace, str) or len(trace) > MOST_STEPS:
        raise InvalidTrace(None)
    index = wrong_step(trace)
    if index is not None:
        raise InvalidTrace(index)


def check_top(top, most):
    """Raise InvalidTop unless a value is an integer from 0 to most."""
    if not is_integer(top) or not 0 <= top <= most:
        raise InvalidTop("top is not an integer in its range")


def check_registers(registers):
    """Raise InvalidRegisters unless a value is a number of registers."""
    if not is_integer(registers) or not 1 <= registers <= MOST_REGISTERS:
        raise InvalidRegisters("registers is not an integer in its range")


def check_machine(registers, top):
    """Raise InvalidRegisters or InvalidTop unless there is a machine with these numbers."""
    check_registers(registers)
    check_top(top, registers)


def check_number(number, least, most):
    """Raise InvalidNumber unless a value is an integer from least to most, or from least on if most is None."""
    if not is_integer(number) or number < least or (most is not None and number > most):
        raise InvalidNumber("a number is not an integer in its range")
