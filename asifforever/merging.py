"""Merging: rows that lead all states to one, books of couples that never meet, and how much is told by when."""

from asifforever.basics import (
    common_bottom, fraction, gap_between, is_fraction, is_lot_of_couples, is_within, lot_of, tops_over)
from asifforever.errors import NoNumber, NoShare, NothingTold
from asifforever.steady import steady_spreads


def lot_led(leads, lot):
    """The lot of the states to which a move leads those of a lot."""
    return lot_of([leads[state] for state in lot])


def least_row_to_one(system, start):
    """The least of the shortest rows that lead a lot to one state, None if none does."""
    rows = {start: ()}
    waiting = [start]
    # Lots wait by the length of their rows, rows of one length ascending, so the first single one has the least.
    while waiting:
        lot = waiting.pop(0)
        if len(lot) == 1:
            return rows[lot]
        for number, (_, leads) in enumerate(system.moves):
            other = lot_led(leads, lot)
            if other not in rows:
                rows[other] = rows[lot] + (number,)
                waiting.append(other)
    return None


def merging_row(system):
    """The least of the shortest rows that lead all states to one, None if none does."""
    return least_row_to_one(system, tuple(range(system.many)))


def is_kept(system, couples):
    """Whether each move leads both of each couple to a couple among these."""
    return all([lot_led(leads, couple) in couples for couple in couples for _, leads in system.moves])


def is_book(system, thing):
    """Whether a thing is a book: a lot of couples, not empty, which all moves lead to such of it."""
    return is_lot_of_couples(system.many, thing) and len(thing) > 0 and is_kept(system, thing)


def apart(system):
    """The lot of all couples that no row leads to one state."""
    states = range(system.many)
    left = [(one, other) for one in states for other in states if one < other]
    while not is_kept(system, left):
        left = [couple for couple in left if all([lot_led(leads, couple) in left for _, leads in system.moves])]
    return tuple(left)


def lots_led(system):
    """The dict from each lot behind any row to the list of the lots to which the moves lead it."""
    found = {}
    waiting = [tuple(range(system.many))]
    while waiting:
        lot = waiting.pop()
        if lot not in found:
            found[lot] = [lot_led(leads, lot) for _, leads in system.moves]
            waiting.extend(found[lot])
    return found


def factors_of(system):
    """The bottom common to the shares of all moves, and the tops that they have over it."""
    shares = [share for share, _ in system.moves]
    bottom = common_bottom(shares)
    return bottom, tops_over(shares, bottom)


def tops_ahead(tops, led_to, factors):
    """The tops of rows by the lots behind them, once they have one move more."""
    found = {}
    for lot, top in tops.items():
        for factor, other in zip(factors, led_to[lot]):
            found[other] = found.get(other, 0) + top * factor
    return found


def tops_behind(system, depth):
    """The bottom of the shares of rows of so many moves, and the dict from the lots behind them to their tops."""
    bottom, factors = factors_of(system)
    led_to = lots_led(system)
    whole = 1
    tops = {tuple(range(system.many)): 1}
    for _ in range(depth):
        tops = tops_ahead(tops, led_to, factors)
        whole = whole * bottom
    return whole, tops


def told_tops(system, depth):
    """The bottom of the shares of rows of so many moves, and the top of those that lead all states to each one."""
    whole, tops = tops_behind(system, depth)
    return whole, [tops.get((state,), 0) for state in range(system.many)]


def lots_behind(system, depth):
    """The dict from each lot behind some row of so many moves to the share of all these rows."""
    if not is_within(0, 30, depth):
        raise NoNumber()
    whole, tops = tops_behind(system, depth)
    return {lot: fraction(tops[lot], whole) for lot in sorted(tops)}


def told_shares(system, depth):
    """For each state the share of the rows of so many moves that lead all states to it."""
    if not is_within(0, 30, depth):
        raise NoNumber()
    whole, tops = told_tops(system, depth)
    return tuple([fraction(top, whole) for top in tops])


def undecided(system, depth):
    """The share of the rows of so many moves that do not merge."""
    if not is_within(0, 30, depth):
        raise NoNumber()
    whole, tops = told_tops(system, depth)
    return fraction(whole - sum(tops), whole)


def depth_for(system, share):
    """The least depth, up to 30, at which undecided is at most a fraction, None if there is none."""
    if not is_fraction(share) or share[0] <= 0:
        raise NoShare()
    most, below = share
    bottom, factors = factors_of(system)
    led_to = lots_led(system)
    whole = 1
    tops = {tuple(range(system.many)): 1}
    for depth in range(31):
        left = sum([top for lot, top in tops.items() if len(lot) > 1])
        if left * below <= most * whole:
            return depth
        tops = tops_ahead(tops, led_to, factors)
        whole = whole * bottom
    return None


def hasty(system, depth):
    """What is told, divided by its sum, if whatever is not told by then is thrown away."""
    if not is_within(0, 30, depth):
        raise NoNumber()
    _, tops = told_tops(system, depth)
    together = sum(tops)
    if together == 0:
        raise NothingTold()
    return tuple([fraction(top, together) for top in tops])


def bias(system, depth):
    """How far hasty is from the steady spread: half the sum of the sizes of their differences."""
    # What is told leads all states to one, so there is just one closed lot and one steady spread.
    return gap_between(hasty(system, depth), steady_spreads(system)[0])
