"""Equations with one answer, in whole numbers until the answer is there."""

from waterloops.ratios import Row


def crossed(row, pivot, before):
    """The row less its first unknown, which the pivot's row takes out.

    Before is the last pivot: it divides all of these numbers without rest (Bareiss), which keeps them short.
    """
    own = row[0]
    other = pivot[0]
    return [(other * number - own * over) // before for number, over in zip(row[1:], pivot[1:])]


def staircase(equations, scale):
    """The equations, each with one unknown less than the one above it, or None if they have no one answer."""
    steps = []
    rows = equations
    before = scale
    while len(rows) > 0:
        pivot = rows[0]
        if pivot[0] == 0:
            return None
        steps.append(pivot)
        rows = [crossed(row, pivot, before) for row in rows[1:]]
        before = pivot[0]
    return steps


def solved(equations, scale):
    """The row of the unknowns, not in lowest terms, or None if not just one row keeps the equations.

    An equation has a whole number for each unknown, then what they come to. All these are fractions times the
    scale, a number that must make all determinants of the fractions whole: so it needs to stay in them only once.
    The determinants of the squares at the upper left must be above 0, all of them where there's one answer, else
    all before the first that is 0.
    """
    steps = staircase(equations, scale)
    if steps is None:
        return None
    below = steps[-1][0] if len(steps) > 0 else scale
    tops = []
    for step in reversed(steps):
        known = sum([number * top for number, top in zip(step[1:-1], tops)])
        tops = [(step[-1] * below - known) // step[0]] + tops
    return Row(tops, below)
