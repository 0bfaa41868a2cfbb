"""Orders of states that moves keep, by which two states, the least and the greatest, stand for all."""

from asifforever.basics import is_lot_of_pairs, is_within, lot_of
from asifforever.drawing import is_plan, led_by_plan
from asifforever.errors import NoCoins, NoEnds, NoOrder, NoPlan, NoState, NotKept
from asifforever.merging import least_row_to_one
from asifforever.systems import is_row


def joined(pairs):
    """All pairs (s, u) such that (s, t) and (t, u) are among the pairs."""
    return [(one, other) for one, by in pairs for behind, other in pairs if by == behind]


def is_order(system, thing):
    """Whether a thing is an order: a lot of pairs of unlike states, none contrary, closed as joined tells."""
    if not is_lot_of_pairs(system.many, thing):
        return False
    # Two contrary pairs join to one of a state with itself, so what is closed and has no such has none contrary.
    return all([one != other for one, other in thing]) and all([pair in thing for pair in joined(thing)])


def breaking(system, order):
    """The least triple (s, t, move) that shows that an order is not kept, None if it is."""
    if not is_order(system, order):
        raise NoOrder()
    for one, other in order:
        for move, (_, leads) in enumerate(system.moves):
            pair = (leads[one], leads[other])
            if pair[0] != pair[1] and pair not in order:
                return one, other, move
    return None


def ends(system, order):
    """The pair of the state that is below all others and the one that is above all, None for either not there."""
    if not is_order(system, order):
        raise NoOrder()
    states = range(system.many)
    low = None
    high = None
    for state in states:
        others = [other for other in states if other != state]
        if all([(state, other) in order for other in others]):
            low = state
        if all([(other, state) in order for other in others]):
            high = state
    return low, high


def least_order(system, low, high):
    """The order with the fewest pairs that is kept, low below and high above all others, None if there is none."""
    states = range(system.many)
    if not is_within(0, system.many - 1, low) or not is_within(0, system.many - 1, high):
        raise NoState()
    if low == high and system.many > 1:
        raise NoEnds()
    waiting = [(low, state) for state in states if state != low] + [(state, high) for state in states if state != high]
    found = {}
    while waiting:
        one, other = waiting.pop()
        if (other, one) in found:
            return None
        if one != other and (one, other) not in found:
            waiting.extend([(leads[one], leads[other]) for _, leads in system.moves])
            waiting.extend([(below, other) for below, by in found if by == one])
            waiting.extend([(one, above) for by, above in found if by == other])
            found[one, other] = True
    return tuple(sorted(found))


def ends_kept(system, order):
    """Both ends of an order that must be kept and have them."""
    if breaking(system, order) is not None:
        raise NotKept()
    found = ends(system, order)
    if None in found:
        raise NoEnds()
    return found


def merging_by_ends(system, order):
    """The least of the shortest rows that lead both ends to one state, None if none does."""
    return least_row_to_one(system, lot_of(ends_kept(system, order)))


def drawn_by_ends(system, order, coins, plan):
    """What coins tell by both ends alone: ("told", state, so many), or ("undecided", pair, so many)."""
    both = ends_kept(system, order)
    if not is_row(system, coins):
        raise NoCoins()
    if not is_plan(plan):
        raise NoPlan()
    (low, high), many = led_by_plan(system, coins, plan, both)
    return ("told", low, many) if low == high else ("undecided", (low, high), many)
