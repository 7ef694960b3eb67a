"""Fractions in lowest terms."""


def common_divisor(a, b):
    """The greatest common divisor of two numbers that are 0 or more, not both 0."""
    while b > 0:
        rest = a % b
        a = b
        b = rest
    return a


def fraction(upper, lower):
    """The two numbers that tell upper / lower; lower is not 0."""
    divisor = common_divisor(abs(upper), abs(lower))
    if lower < 0:
        divisor = -divisor
    return [upper // divisor, lower // divisor]
