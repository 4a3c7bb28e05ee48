"""Fractions in lowest terms."""


def common_divisor(a, b):
    """The greatest whole number that divides both; not both are 0."""
    greater = a
    less = b
    while less > 0:
        rest = greater % less
        greater = less
        less = rest
    return greater


def lowest(top, bottom):
    """The two numbers of top over bottom in lowest terms; bottom is above 0, top not below."""
    divisor = common_divisor(top, bottom)
    return [top // divisor, bottom // divisor]
