"""Distances of spreads: how far states, and the steady spread, are apart behind so many moves."""

from asifforever.basics import common_bottom, fraction, gap_between, is_fraction, is_within, tops_over
from asifforever.errors import NoNumber, NoShare, NoSpread, NotOne
from asifforever.once import block_tops, times
from asifforever.steady import closed_lots, rounds_of, steady_spreads
from asifforever.systems import is_spread, step_tops


def distance(many, one, other):
    """Half the sum of the sizes of the differences of two spreads."""
    if not is_spread(many, one) or not is_spread(many, other):
        raise NoSpread()
    return gap_between(one, other)


def bottom_behind(system, depth):
    """The bottom over which block_tops tells the shares of rows of so many moves."""
    factor, _ = step_tops(system)
    bottom = 1
    for _ in range(depth):
        bottom = bottom * factor
    return bottom


def sizes(tops, others):
    """The sum of the sizes of the differences of tops and as many others."""
    return sum([abs(top - other) for top, other in zip(tops, others)])


def far_apart(system, depth):
    """The greatest distance of two spreads behind so many moves that begin in a state each."""
    if not is_within(0, 60, depth):
        raise NoNumber()
    table = block_tops(system, depth)
    return fraction(max([sizes(tops, others) for tops in table for others in table]), 2 * bottom_behind(system, depth))


def steady_tops(system):
    """The bottom and the tops of the steady spread, which must be the only one."""
    if len(closed_lots(system)) != 1:
        raise NotOne()
    spread = steady_spreads(system)[0]
    bottom = common_bottom(spread)
    return bottom, tops_over(spread, bottom)


def far_from(table, bottom, steady):
    """The pair of a top and a bottom that tell how far the farthest row of a table is from the steady spread."""
    below, tops = steady
    aims = [top * bottom for top in tops]
    return max([sizes([top * below for top in row], aims) for row in table]), 2 * bottom * below


def far_from_steady(system, depth):
    """The greatest distance of the spread behind so many moves, begun in any state, from the steady one."""
    if not is_within(0, 60, depth):
        raise NoNumber()
    steady = steady_tops(system)
    top, bottom = far_from(block_tops(system, depth), bottom_behind(system, depth), steady)
    return fraction(top, bottom)


def settles(system):
    """Whether far_apart comes below any fraction above 0."""
    lots = closed_lots(system)
    return len(lots) == 1 and rounds_of(system, lots[0]) == 1


def depth_within(system, share):
    """The least depth, up to 60, at which far_from_steady is at most a fraction, None if there is none."""
    if not is_fraction(share) or share[0] <= 0:
        raise NoShare()
    most, below = share
    steady = steady_tops(system)
    factor, steps = step_tops(system)
    table = block_tops(system, 0)
    whole = 1
    for depth in range(61):
        top, bottom = far_from(table, whole, steady)
        if top * below <= most * bottom:
            return depth
        table = [times(row, steps) for row in table]
        whole = whole * factor
    return None
