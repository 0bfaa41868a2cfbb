"""Covers: for each place a lot of values in which those of all pictures stay, led whether the model rises or not."""

from asifforever.basics import is_lot_below, lot_of, with_part
from asifforever.drawing import first_look, is_plan
from asifforever.errors import NoCoins, NoCover, NoPlan, NoRenewal, NothingFits
from asifforever.renewals import is_renewal, local_weights, pictures_around, tied_places, value_at, whole_cover
from asifforever.rising import is_coins
from asifforever.tables import total


def is_cover(model, thing):
    """Whether a thing is a tuple of a lot of values, not empty, for each place."""
    if not isinstance(thing, tuple) or len(thing) != model.many:
        return False
    return all([is_lot_below(model.levels, lot) and len(lot) > 0 for lot in thing])


def lot_led_to(model, cover, renewal):
    """The lot of the values to which a renewal leads its place within a cover; that of now if there are none."""
    place, share = renewal
    told = [local_weights(model, picture, place) for picture in pictures_around(model, cover, place)]
    lot = lot_of([value_at(parts, share) for parts in told if sum(parts) > 0])
    return cover[place] if lot == () else lot


def covered(model, cover, renewal):
    """The cover of all that a renewal may lead pictures within a cover to."""
    if not is_cover(model, cover):
        raise NoCover()
    if not is_renewal(model, renewal):
        raise NoRenewal()
    return with_part(cover, renewal[0], lot_led_to(model, cover, renewal))


def led_cover(model, coins, kept):
    """The cover to which coins lead that of all values; kept holds what was found out of single renewals."""
    cover = whole_cover(model)
    for renewal in reversed(coins):
        place, _ = renewal
        key = (renewal, tuple([cover[tied] for tied in tied_places(model, place)]))
        if key not in kept:
            kept[key] = lot_led_to(model, cover, renewal)
        cover = with_part(cover, place, kept[key])
    return cover


def is_single(cover):
    """Whether each lot has one value."""
    return all([len(lot) == 1 for lot in cover])


def drawn_by_cover(model, coins, plan):
    """What coins tell by covers: ("told", picture, so many), or ("undecided", cover, so many)."""
    if total(model) == 0:
        raise NothingFits()
    if not is_coins(model, coins):
        raise NoCoins()
    if not is_plan(plan):
        raise NoPlan()
    kept = {}
    many = first_look(plan, len(coins), lambda look: is_single(led_cover(model, coins[:look], kept)))
    cover = led_cover(model, coins[:many], kept)
    return ("told", tuple([lot[0] for lot in cover]), many) if is_single(cover) else ("undecided", cover, many)
