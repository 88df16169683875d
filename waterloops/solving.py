"""Equations with one answer, in whole numbers until the answer is there."""

from waterloops.ratios import shortened


def crossed(row, pivot, place, before):
    """The row with its number at the place made 0 by the pivot's row.

    Before is the last pivot: it divides all of these numbers without rest (Bareiss), which keeps them short.
    """
    own = row[place]
    other = pivot[place]
    return [(other * number - own * over) // before for number, over in zip(row, pivot)]


def solved(equations):
    """The row of the unknowns, of which each equation has a whole number each and then what they come to.

    The determinants of all squares at the upper left must not be 0, so that each pivot stands where it's due.
    """
    size = len(equations)
    rows = equations
    before = 1
    for place in range(size):
        pivot = rows[place]
        cleared = []
        for number, row in enumerate(rows):
            cleared.append(row if number == place else crossed(row, pivot, place, before))
        rows = cleared
        before = pivot[place]
    return shortened([row[size] for row in rows], before)
