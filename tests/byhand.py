"""Renewals, flips, covers and what they draw by the document's words, worked out straight and slowly."""

from fractions import Fraction
from itertools import product
from math import gcd

from asifforever.models import Model
from things import any_ties, pair, weight_by_hand, worth


def local_by_hand(model, values, place):
    """The local weights at a place, by the dict of the values of places."""
    found = []
    for value in range(model.levels):
        part = model.weights[place][value]
        for one, other, table in model.ties:
            if one == place:
                part *= table[value][values[other]]
            if other == place:
                part *= table[values[one]][value]
        found.append(part)
    return found


def added_by_hand(parts):
    """The added shares, up to each value."""
    return [Fraction(sum(parts[:value + 1]), sum(parts)) for value in range(len(parts))]


def renewed_by_hand(model, picture, place, u):
    """The picture with the least value whose added shares come to more than u."""
    added = added_by_hand(local_by_hand(model, dict(enumerate(picture)), place))
    value = min(value for value in range(model.levels) if added[value] > u)
    return tuple(value if at == place else old for at, old in enumerate(picture))


def cells_by_hand(model, place):
    """The stretches between all added shares for all values of the tied places."""
    tied = sorted({one + other - place for one, other, _ in model.ties if place in (one, other)})
    cuts = {Fraction(0), Fraction(1)}
    for values in product(range(model.levels), repeat=len(tied)):
        parts = local_by_hand(model, dict(zip(tied, values)), place)
        if sum(parts) > 0:
            cuts |= set(added_by_hand(parts))
    cuts = sorted(cuts)
    return tuple((pair(low), pair(high)) for low, high in zip(cuts, cuts[1:]))


def shares_to_try(model, place):
    """Shares at, just ahead of and behind all ends of cells, and between them."""
    found = set()
    for low, high in cells_by_hand(model, place):
        low, high = worth(low), worth(high)
        found |= {low, (low + high) / 2, low + (high - low) / 10 ** 9, high - (high - low) / 10 ** 9}
    return sorted(found)


def tied_by_hand(model, place):
    """The places tied to one."""
    return [one + other - place for one, other, _ in model.ties if place in (one, other)]


def below_by_hand(flips, one, other):
    """Whether one tuple of values is below another, by a flip for each of them."""
    for flip, value, by in zip(flips, one, other):
        if (value < by) if flip else (value > by):
            return False
    return True


def rises_at_by_hand(model, flips, place):
    """Whether a place does what 9.1 asks of it, all pairs of tuples of values of the tied places gone through."""
    tied = tied_by_hand(model, place)
    added = {}
    for values in product(range(model.levels), repeat=len(tied)):
        parts = local_by_hand(model, dict(zip(tied, values)), place)
        if sum(parts) > 0:
            added[values] = added_by_hand(parts)
    for one in added:
        for other in added:
            if below_by_hand([flips[at] for at in tied], one, other):
                for share, by in zip(added[one], added[other]):
                    if (share > by) if flips[place] else (share < by):
                        return False
    return True


def rises_by_hand(model, flips):
    """Whether all places do what 9.1 asks of them."""
    return all(rises_at_by_hand(model, flips, place) for place in range(model.many))


def ends_by_hand(model, flips):
    """Both ends, None if one does not fit."""
    low = tuple(max(range(model.levels)) if flip else 0 for flip in flips)
    high = tuple(0 if flip else max(range(model.levels)) for flip in flips)
    return (low, high) if weight_by_hand(model, low) * weight_by_hand(model, high) > 0 else None


def flips_by_hand(model):
    """The least flips by which the model rises and both ends fit, all gone through; None if there are none."""
    fit = [flips for flips in product((False, True), repeat=model.many)
           if ends_by_hand(model, flips) and rises_by_hand(model, flips)]
    return min(fit, default=None)


def looks_by_hand(plan, many):
    """The numbers of coins at which a plan looks."""
    if plan == "one":
        return range(many + 1)
    return [look for look in [0] + [2 ** power for power in range(20)] if look <= many]


def drawn_by_hand(start, coins, plan, led_on, told):
    """What 4.1 tells of what start is led to, coin by coin: led_on leads it, told tells what it tells or None."""
    for look in looks_by_hand(plan, len(coins)):
        found = start
        for coin in coins[:look][::-1]:
            found = led_on(found, coin)
        if told(found) is not None:
            return ("told", told(found), look)
    return ("undecided", found, look)


def pair_led_by_hand(model, both, coin):
    """What a renewal leads both pictures to."""
    place, share = coin
    return tuple(renewed_by_hand(model, picture, place, worth(share)) for picture in both)


def drawn_picture_by_hand(model, flips, coins, plan):
    """What drawn_picture should tell."""
    return drawn_by_hand(
        ends_by_hand(model, flips), coins, plan, lambda both, coin: pair_led_by_hand(model, both, coin),
        lambda both: both[0] if both[0] == both[1] else None)


def covered_by_hand(model, cover, coin):
    """The cover behind a renewal."""
    place, share = coin
    tied = tied_by_hand(model, place)
    lot = set()
    for values in product(*(cover[at] for at in tied)):
        parts = local_by_hand(model, dict(zip(tied, values)), place)
        if sum(parts) > 0:
            lot.add(min(value for value, part in enumerate(added_by_hand(parts)) if part > worth(share)))
    return tuple(tuple(sorted(lot)) if at == place and lot else old for at, old in enumerate(cover))


def drawn_by_cover_by_hand(model, coins, plan):
    """What drawn_by_cover should tell."""
    return drawn_by_hand(
        (tuple(range(model.levels)),) * model.many, coins, plan,
        lambda cover, coin: covered_by_hand(model, cover, coin),
        lambda cover: tuple(lot[0] for lot in cover) if all(len(lot) == 1 for lot in cover) else None)


def turned_about(model, flips):
    """The model with the values of flipped places turned about."""
    def row(flip, parts):
        return parts[::-1] if flip else parts

    weights = tuple(row(flip, parts) for flip, parts in zip(flips, model.weights))
    ties = tuple(
        (one, other, row(flips[one], tuple(row(flips[other], parts) for parts in table)))
        for one, other, table in model.ties)
    return Model(model.many, model.levels, weights, ties)


# Tables by which the one place's value draws the other's up with it.
RISING = {
    1: [((7,),), ((1,),)],
    2: [((1, 1), (1, 1)), ((2, 1), (1, 2)), ((5, 1), (1, 1)), ((1, 0), (0, 1)), ((1, 0), (1, 1)), ((1000, 1), (3, 1))],
    3: [((1, 1, 1), (1, 2, 4), (1, 4, 16)), ((1, 1, 0), (1, 1, 1), (0, 1, 1)), ((1, 0, 0), (1, 1, 0), (1, 1, 1)),
        ((9, 3, 1), (3, 9, 3), (1, 3, 9))],
    4: [((1, 1, 1, 1), (1, 2, 4, 8), (1, 4, 16, 64), (1, 8, 64, 512)),
        ((1, 0, 0, 0), (1, 1, 0, 0), (1, 1, 1, 0), (1, 1, 1, 1)),
        ((1, 1, 0, 0), (1, 1, 1, 0), (0, 1, 1, 1), (0, 0, 1, 1))],
}


def any_rising(chance, many, levels, count):
    """A model that rises, and flips by which it does and both ends fit."""
    ties = tuple(
        (one, other, chance.choice(RISING[levels]))
        for one, other, _ in any_ties(chance, many, levels, count, (1,)))
    weights = tuple(
        (chance.randint(1, 5),) + tuple(chance.randint(0, 5) for _ in range(levels - 2))
        + (chance.randint(1, 5),) * (levels > 1) for _ in range(many))
    flips = tuple(chance.random() < 0.5 for _ in range(many))
    return turned_about(Model(many, levels, weights, ties), flips), flips


def is_coin_by_hand(model, thing):
    """Whether a thing is a renewal."""
    if type(thing) is not tuple or [type(part) for part in thing] != [int, tuple]:
        return False
    place, share = thing
    if [type(part) for part in share] != [int, int] or not 0 <= share[0] < share[1] or gcd(*share) != 1:
        return False
    return 0 <= place < model.many


def are_coins_by_hand(model, thing):
    """Whether a thing is coins of a model."""
    return type(thing) is tuple and len(thing) <= 400 and all(is_coin_by_hand(model, part) for part in thing)


def any_coin(chance, model):
    """A renewal: u at the ends of stretches, or between."""
    place = chance.randrange(model.many)
    return place, pair(chance.choice(shares_to_try(model, place)))


def any_coins(chance, model, many):
    """So many renewals."""
    shares = [shares_to_try(model, place) for place in range(model.many)]
    places = [chance.randrange(model.many) for _ in range(many)]
    return tuple((place, pair(chance.choice(shares[place]))) for place in places)
