"""Rising models: flips by which all pictures that fit stay between two ends, and pictures drawn by these alone."""

from math import lcm

from asifforever.basics import with_part
from asifforever.drawing import first_look, is_plan
from asifforever.errors import NoCoins, NoEnds, NoFlips, NoPicture, NoPlan, NotRising
from asifforever.models import is_picture, weight
from asifforever.renewals import (
    is_renewal, led_on, local_weights, pictures_around, sums, tied_places, whole_cover)


def is_flips(model, thing):
    """Whether a thing is a tuple of a flag for each place."""
    if not isinstance(thing, tuple) or len(thing) != model.many:
        return False
    return all([isinstance(flip, bool) for flip in thing])


def is_below(model, flips, one, other):
    """Whether one picture is below another by flips."""
    if not is_flips(model, flips):
        raise NoFlips()
    if not is_picture(model, one) or not is_picture(model, other):
        raise NoPicture()
    return all([value >= by if flip else value <= by for flip, value, by in zip(flips, one, other)])


def added_around(model, place):
    """A bottom, and the dict from the pictures around a place to their local shares, added up, as tops over it.

    Where all local weights are 0 more than any share stands, so that it is never the least.
    """
    added = {}
    bottom = 1
    for picture in pictures_around(model, whole_cover(model), place):
        added[picture] = sums(local_weights(model, picture, place))
        if added[picture][-1] > 0:
            bottom = lcm(bottom, added[picture][-1])
    tops = {}
    for picture, parts in added.items():
        if parts[-1] > 0:
            tops[picture] = [part * (bottom // parts[-1]) for part in parts]
        else:
            tops[picture] = [bottom + 1] * model.levels
    return bottom, tops


def least_along(tops, place, turned):
    """For each picture the least of its tops and of those of all that are less at one place, or more if turned."""
    pictures = sorted(tops)
    step = -1
    if turned:
        pictures = pictures[::-1]
        step = 1
    found = {}
    for picture in pictures:
        before = found.get(with_part(picture, place, picture[place] + step), tops[picture])
        found[picture] = [min(top, other) for top, other in zip(tops[picture], before)]
    return found


def falls(tied, turned, bottom, tops):
    """Whether no shares, added up, are more than those below them, by tied places of which some are turned."""
    least = tops
    for place, turn in zip(tied, turned):
        least = least_along(least, place, turn)
    return all([least[picture] == parts for picture, parts in tops.items() if parts[-1] == bottom])


def surroundings(model):
    """For each place the places tied to it, the bottom and the tops of added_around."""
    return [(tied_places(model, place), *added_around(model, place)) for place in range(model.many)]


def rises_by(around, flips, kept):
    """Whether a model of these surroundings rises by flips; kept holds what was found out of its places."""
    for place, (tied, bottom, tops) in enumerate(around):
        # A flipped place asks what one that is not flipped asks if all that are tied to it are turned about.
        turned = tuple([flips[other] != flips[place] for other in tied])
        if (place, turned) not in kept:
            kept[place, turned] = falls(tied, turned, bottom, tops)
        if not kept[place, turned]:
            return False
    return True


def rises(model, flips):
    """Whether the model rises by flips: whether renewals lead what is below to what is below."""
    if not is_flips(model, flips):
        raise NoFlips()
    return rises_by(surroundings(model), flips, {})


def ends_by(model, flips):
    """The pair of the pictures that are below and above all others by flips, whether they fit or not."""
    most = model.levels - 1
    return tuple([most if flip else 0 for flip in flips]), tuple([0 if flip else most for flip in flips])


def ends_fit(model, flips):
    """Whether both ends fit."""
    low, high = ends_by(model, flips)
    return weight(model, low) > 0 and weight(model, high) > 0


def all_flips(many):
    """The ascending list of all flips of so many places."""
    found = [()]
    for _ in range(many):
        found = [flips + (flip,) for flips in found for flip in (False, True)]
    return found


def flips_for(model):
    """The least flips by which the model rises and both ends fit, None if there are none."""
    around = surroundings(model)
    kept = {}
    for flips in all_flips(model.many):
        if ends_fit(model, flips) and rises_by(around, flips, kept):
            return flips
    return None


def ends_of(model, flips):
    """The pair of both ends, which must fit."""
    if not is_flips(model, flips):
        raise NoFlips()
    if not ends_fit(model, flips):
        raise NoEnds()
    return ends_by(model, flips)


def ends_rising(model, flips):
    """The pair of both ends of a model that must rise by flips."""
    if not rises(model, flips):
        raise NotRising()
    return ends_of(model, flips)


def is_coins(model, thing):
    """Whether a thing is a tuple of at most 400 renewals."""
    if not isinstance(thing, tuple) or len(thing) > 400:
        return False
    return all([is_renewal(model, renewal) for renewal in thing])


def led_pair(model, both, coins):
    """The pair of what coins lead two pictures to, the last coin being done first."""
    low, high = both
    for renewal in reversed(coins):
        low = led_on(model, low, renewal)
        high = led_on(model, high, renewal)
    return low, high


def is_one(both):
    """Whether both of a pair are one."""
    low, high = both
    return low == high


def drawn_picture(model, flips, coins, plan):
    """What coins tell by both ends: ("told", picture, so many), or ("undecided", pair, so many)."""
    both = ends_rising(model, flips)
    if not is_coins(model, coins):
        raise NoCoins()
    if not is_plan(plan):
        raise NoPlan()
    many = first_look(plan, len(coins), lambda look: is_one(led_pair(model, both, coins[:look])))
    found = led_pair(model, both, coins[:many])
    return ("told", found[0], many) if is_one(found) else ("undecided", found, many)


def is_drawn_picture(model, flips, thing):
    """Whether a thing is a pair (picture, coins), these the fewest that lead both ends to this one."""
    both = ends_rising(model, flips)
    if not isinstance(thing, tuple) or len(thing) != 2:
        return False
    picture, coins = thing
    if not is_picture(model, picture) or not is_coins(model, coins):
        return False
    if led_pair(model, both, coins) != (picture, picture):
        return False
    return coins == () or not is_one(led_pair(model, both, coins[:-1]))
