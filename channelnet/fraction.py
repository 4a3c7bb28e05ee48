"""Fractions in lowest terms."""


def common_divisor(a, b):
    """The greatest whole number that divides both; not both are 0."""
    greater = a
    less = b
    while less > 0:
        rest = greater % less
        greater = less
        less = rest
    return greater


def lowest(top, bottom):
    """The two numbers of top over bottom in lowest terms; bottom is above 0, top not below."""
    divisor = common_divisor(top, bottom)
    return [top // divisor, bottom // divisor]


def total(fractions):
    """The sum of fractions that are two numbers each, as two numbers in lowest terms."""
    top = 0
    bottom = 1
    for fraction in fractions:
        top = top * fraction[1] + fraction[0] * bottom
        bottom = bottom * fraction[1]
    return lowest(top, bottom)
