"""Fractions, told by a pair (top, below) with below above 0, and rows of fractions over one number below.

Only answers must be in lowest terms. In between, a row keeps one common number below: to shorten each
fraction at each step would cost far more than to carry some longer numbers.
"""


class Row:
    """The k-th fraction is tops[k] / below."""

    def __init__(self, tops, below):
        self.tops = tops
        self.below = below


def common_factor(one, other):
    """The greatest number that divides both; neither is below 0."""
    while other != 0:
        rest = one % other
        one = other
        other = rest
    return one


def lowest(top, below):
    factor = common_factor(abs(top), below)
    return (top // factor, below // factor)


def times(one, other):
    return lowest(one[0] * other[0], one[1] * other[1])


def plus(one, other):
    return lowest(one[0] * other[1] + other[0] * one[1], one[1] * other[1])


def turned(ratio):
    """1 divided by a fraction that is above 0."""
    return (ratio[1], ratio[0])


def row_of(ratios):
    below = 1
    for ratio in ratios:
        below = below // common_factor(below, ratio[1]) * ratio[1]
    return Row([ratio[0] * (below // ratio[1]) for ratio in ratios], below)


def row_over_product(ratios):
    """The row whose number below is the product of all theirs."""
    below = 1
    for ratio in ratios:
        below = below * ratio[1]
    return Row([ratio[0] * (below // ratio[1]) for ratio in ratios], below)


def shortened(tops, below):
    """The row of tops over below, less the factors that all of them share."""
    factor = below
    for top in tops:
        factor = common_factor(factor, abs(top))
    return Row([top // factor for top in tops], below // factor)


def sum_of_products(one, other):
    total = sum([left * right for left, right in zip(one.tops, other.tops)])
    return lowest(total, one.below * other.below)


def squares(row):
    return Row([top * top for top in row.tops], row.below * row.below)


def told(row):
    """The row's fractions in lowest terms, two numbers each, one behind another."""
    numbers = []
    for top in row.tops:
        numbers.extend(lowest(top, row.below))
    return numbers


def row_from(numbers):
    """The row that two numbers each tell, or None if they tell no fractions."""
    if len(numbers) % 2 != 0:
        return None
    ratios = []
    for place in range(0, len(numbers), 2):
        if numbers[place + 1] <= 0:
            return None
        ratios.append((numbers[place], numbers[place + 1]))
    return row_of(ratios)
