"""Steady spreads: closed lots and their rounds, and the steady shares worked out in two ways."""

from math import gcd

from asifforever.basics import fraction, is_row_below, is_within
from asifforever.errors import NoLot, NoState, NotOne
from asifforever.systems import is_spread, spread_behind, step_tops


def distances_from(system, start):
    """The dict of all states to which rows lead from one, with the length of the shortest such row."""
    found = {start: 0}
    waiting = [start]
    while waiting:
        state = waiting.pop(0)
        for _, leads in system.moves:
            other = leads[state]
            if other not in found:
                found[other] = found[state] + 1
                waiting.append(other)
    return found


def closed_lots(system):
    """The ascending list of the lots that no move leads out of, each state led to each in them."""
    reached = [tuple(sorted(distances_from(system, state))) for state in range(system.many)]
    # No move leads out of what a state is led to, so only the way back to the state is asked for.
    lots = [lot for state, lot in enumerate(reached) if all([state in reached[other] for other in lot])]
    return sorted(set(lots))


def rounds_of(system, lot):
    """The greatest integer that divides the length of each row that leads a state of a closed lot to itself."""
    # Looked at first, for True equals 1 and would be found in a lot.
    if not is_row_below(system.many, lot) or lot not in closed_lots(system):
        raise NoLot()
    far = distances_from(system, lot[0])
    rounds = 0
    for state in lot:
        for _, leads in system.moves:
            # Rows that lead the first state to one and the same state differ in length by whole rounds, so
            # what each step is longer than the shortest way tells as much as all rows together.
            rounds = gcd(rounds, far[state] + 1 - far[leads[state]])
    return rounds


def cleared(row, pivot, at, last):
    """The row with 0 in a column, by a pivot row that has none there; last divides all evenly."""
    return [(pivot[at] * worth - row[at] * other) // last for worth, other in zip(row, pivot)]


def straightened(rows):
    """Rows that say the same, the square in front all 0 but the determinant, all along its diagonal; None if it is 0.

    By Bareiss' order of steps each division comes out even, so integers stay integers. Rows need not change
    places: tree_top meets a 0 on the diagonal only if there is a closed lot among the states so far, and then the
    determinant is 0; steady_in, within one closed lot, meets none.
    """
    table = list(rows)
    last = 1
    for at in range(len(rows)):
        pivot = table[at]
        if pivot[at] == 0:
            return None
        table = [pivot if k == at else cleared(row, pivot, at, last) for k, row in enumerate(table)]
        last = pivot[at]
    return table


def steady_in(system, lot):
    """The steady spread that is 0 outside a closed lot."""
    bottom, table = step_tops(system)
    rows = [[table[state][other] for state in lot] + [0] for other in lot]
    for at in range(len(lot)):
        rows[at][at] -= bottom
    # What stays as it is in all other states does so in the first; instead all shares are 1 together.
    rows[0] = [1] * (len(lot) + 1)
    answers = straightened(rows)
    shares = {state: fraction(answers[at][-1], answers[at][at]) for at, state in enumerate(lot)}
    return tuple([shares.get(state, (0, 1)) for state in range(system.many)])


def steady_spreads(system):
    """For each closed lot the one steady spread that is 0 outside it."""
    return [steady_in(system, lot) for lot in closed_lots(system)]


def is_steady(system, thing):
    """Whether a thing is a spread that is its own spread behind one move."""
    return is_spread(system.many, thing) and spread_behind(system, thing, 1) == thing


def tree_top(system, state):
    """The weight of all trees towards a state, times the bottom of step_tops once for each other state."""
    bottom, table = step_tops(system)
    others = [other for other in range(system.many) if other != state]
    if others == []:
        return 1
    # The sum over all trees is a determinant, by the matrix tree theorem.
    rows = [[-table[one][other] for other in others] for one in others]
    for at in range(len(others)):
        rows[at][at] += bottom
    answers = straightened(rows)
    return 0 if answers is None else answers[0][0]


def tree_weight(system, state):
    """The sum, over all trees towards a state, of the products of the shares of their steps."""
    if not is_within(0, system.many - 1, state):
        raise NoState()
    factor, _ = step_tops(system)
    bottom = 1
    for _ in range(system.many - 1):
        bottom = bottom * factor
    return fraction(tree_top(system, state), bottom)


def by_trees(system):
    """The steady spread as the tree weights divided by their sum."""
    if len(closed_lots(system)) != 1:
        raise NotOne()
    tops = [tree_top(system, state) for state in range(system.many)]
    together = sum(tops)
    return tuple([fraction(top, together) for top in tops])
