"""Renewals: one place gets a value by its local shares; a model as a System of such moves."""

from asifforever.basics import common_bottom, fraction, is_fraction, is_within, tops_over, with_part
from asifforever.errors import NoPicture, NoPlace, NoRenewal, NothingFits, TooMany
from asifforever.models import first_fitting, is_picture, weight
from asifforever.systems import System


def local_weights(model, picture, place):
    """For each value at a place its weight times the numbers of its ties, as a picture has the tied places."""
    found = list(model.weights[place])
    for one, other, table in model.ties:
        if one == place:
            found = [part * row[picture[other]] for part, row in zip(found, table)]
        elif other == place:
            found = [part * number for part, number in zip(found, table[picture[one]])]
    return found


def sums(parts):
    """All parts from the first on added up, for each part."""
    return [sum(parts[:many + 1]) for many in range(len(parts))]


def is_fitting(model, thing):
    """Whether a thing is a picture that fits."""
    return is_picture(model, thing) and weight(model, thing) > 0


def local_shares(model, picture, place):
    """For each value at a place its local share, in a picture that fits."""
    if not is_fitting(model, picture):
        raise NoPicture()
    if not is_within(0, model.many - 1, place):
        raise NoPlace()
    parts = local_weights(model, picture, place)
    return tuple([fraction(part, sum(parts)) for part in parts])


def is_renewal(model, thing):
    """Whether a thing is a renewal: a pair (place, u), u a fraction from 0 on, below 1."""
    if not isinstance(thing, tuple) or len(thing) != 2:
        return False
    place, share = thing
    return is_within(0, model.many - 1, place) and is_fraction(share) and 0 <= share[0] < share[1]


def value_at(parts, share):
    """The least value up to which local weights, not all 0, come to more than this share of their sum."""
    top, bottom = share
    whole = sum(parts)
    return [together * bottom > top * whole for together in sums(parts)].index(True)


def led_on(model, picture, renewal):
    """The picture to which a renewal leads one that fits."""
    place, share = renewal
    return with_part(picture, place, value_at(local_weights(model, picture, place), share))


def renewed(model, picture, renewal):
    """The picture that fits with, at the renewal's place, the value to which it leads."""
    if not is_fitting(model, picture):
        raise NoPicture()
    if not is_renewal(model, renewal):
        raise NoRenewal()
    return led_on(model, picture, renewal)


def tied_places(model, place):
    """The places to which a place has ties."""
    return [one + other - place for one, other, _ in model.ties if place in (one, other)]


def whole_cover(model):
    """The cover of all values of all places."""
    return (tuple(range(model.levels)),) * model.many


def pictures_around(model, cover, place):
    """Pictures with all values out of a cover at the places tied to one, each 0 elsewhere; they need not fit."""
    found = [(0,) * model.many]
    for tied in tied_places(model, place):
        found = [with_part(picture, tied, value) for picture in found for value in cover[tied]]
    return found


def cells(model, place):
    """The stretches, as pairs (low, high), into which all added local shares at a place part that from 0 to 1."""
    if not is_within(0, model.many - 1, place):
        raise NoPlace()
    cuts = [(0, 1), (1, 1)]
    for picture in pictures_around(model, whole_cover(model), place):
        together = sums(local_weights(model, picture, place))
        if together[-1] > 0:
            cuts.extend([fraction(top, together[-1]) for top in together])
    bottom = common_bottom(cuts)
    tops = sorted(set(tops_over(cuts, bottom)))
    return tuple([(fraction(low, bottom), fraction(high, bottom)) for low, high in zip(tops, tops[1:])])


def move_of(model, pictures, place, cell):
    """The move of a System whose states are the pictures: the renewals at a place by the shares of one cell."""
    (low, under), (high, over) = cell
    share = fraction(high * under - low * over, under * over * model.many)
    return share, tuple([pictures.index(renewed(model, picture, (place, (low, under)))) for picture in pictures])


def system_of(model):
    """The System whose states are the pictures that fit, and whose moves are the renewals, place by place."""
    pictures = first_fitting(model, 13)
    if pictures == []:
        raise NothingFits()
    if len(pictures) > 12:
        raise TooMany(12)
    told = [(place, cell) for place in range(model.many) for cell in cells(model, place)]
    if len(told) > 24:
        raise TooMany(24)
    return System(len(pictures), tuple([move_of(model, pictures, place, cell) for place, cell in told]))
