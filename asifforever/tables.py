"""Exact shares: tables are multiplied and added up place by place, so that no pictures need be listed.

A table here is a pair (places, numbers): numbers the dict from the tuples of their values to what is above 0.
"""

from asifforever.basics import fraction, is_lot_below, is_row_below, is_within, lot_of, with_part
from asifforever.errors import NoOrdering, NoPlace, NoPlaces, NothingFits, NoValue
from asifforever.models import Model, weight


def tables_of(model):
    """A table for the weights of each place, and one for each tie."""
    values = range(model.levels)
    found = []
    for place, row in enumerate(model.weights):
        found.append(((place,), {(value,): row[value] for value in values if row[value] > 0}))
    for one, other, table in model.ties:
        numbers = {(value, by): table[value][by] for value in values for by in values if table[value][by] > 0}
        found.append(((one, other), numbers))
    return found


def parted(table, ahead):
    """A table's numbers by their values at the places that stand ahead, and the places that do not, with them.

    Told are these places, and the dict from the values at the others to the list of pairs (values, number).
    """
    places, numbers = table
    fresh = [at for at, place in enumerate(places) if place not in ahead]
    # As they stand ahead, not as they stand here.
    shared = [places.index(place) for place in ahead if place in places]
    found = {}
    for values, number in numbers.items():
        key = tuple([values[at] for at in shared])
        found.setdefault(key, []).append((tuple([values[at] for at in fresh]), number))
    return tuple([places[at] for at in fresh]), found


def multiplied_by(table, other):
    """The product of two tables, over the places that stand in either."""
    places, numbers = table
    fresh, factors = parted(other, places)
    shared = [at for at, place in enumerate(places) if place in other[0]]
    found = {}
    for values, number in numbers.items():
        for more, factor in factors.get(tuple([values[at] for at in shared]), []):
            found[values + more] = number * factor
    return places + fresh, found


def multiplied(tables):
    """The product of all tables."""
    found = ((), {(): 1})
    for table in tables:
        found = multiplied_by(found, table)
    return found


def without(table, place, joined):
    """The table in which the numbers of all values at a place are joined to one."""
    places, numbers = table
    at = places.index(place)
    found = {}
    for values, number in numbers.items():
        key = values[:at] + values[at + 1:]
        found[key] = joined(found[key], number) if key in found else number
    return places[:at] + places[at + 1:], found


def put_out(tables, place, joined):
    """The tables once a place is put out, and of how many places that one was in which it stood."""
    whole = multiplied([table for table in tables if place in table[0]])
    return [table for table in tables if place not in table[0]] + [without(whole, place, joined)], len(whole[0])


def added(one, other):
    """How numbers are joined to tell a sum."""
    return one + other


def greater(one, other):
    """How numbers are joined to tell the greatest."""
    return max(one, other)


def width_at(tables, place):
    """Of how many places the table would be in which a place stood."""
    return len(lot_of([other for places, _ in tables if place in places for other in places]))


def left_over(model, places, joined):
    """The dict from values at a lot of places to what all numbers come to, once all others are put out."""
    tables = tables_of(model)
    others = [place for place in range(model.many) if place not in places]
    while others:
        # Any order tells the same; this one keeps tables small.
        widths = [width_at(tables, place) for place in others]
        place = others.pop(widths.index(min(widths)))
        tables, _ = put_out(tables, place, joined)
    standing, numbers = multiplied(tables)
    order = [standing.index(place) for place in places]
    return {tuple([values[at] for at in order]): number for values, number in numbers.items()}


def total(model):
    """The sum of the weights of all pictures."""
    return left_over(model, (), added).get((), 0)


def is_ordering(model, thing):
    """Whether a thing is a tuple of all places in an order."""
    return is_row_below(model.many, thing) and len(thing) == model.many and len(lot_of(thing)) == model.many


def total_by(model, order):
    """The pair of the total, found by putting places out in an order, and of the greatest table's width."""
    if not is_ordering(model, order):
        raise NoOrdering()
    tables = tables_of(model)
    most = 0
    for place in order:
        tables, width = put_out(tables, place, added)
        most = max(most, width)
    _, numbers = multiplied(tables)
    return numbers.get((), 0), most


def share_of_picture(model, picture):
    """The steady share of a picture."""
    part = weight(model, picture)
    whole = total(model)
    if whole == 0:
        raise NothingFits()
    return fraction(part, whole)


def shares_by_values(model, places):
    """The dict from values at a lot of places to their shares, above 0, ascending; some picture must fit."""
    parts = left_over(model, places, added)
    whole = sum(parts.values())
    if whole == 0:
        raise NothingFits()
    return {values: fraction(parts[values], whole) for values in sorted(parts)}


def shares_at(model, place):
    """For each value at a place its steady share."""
    if not is_within(0, model.many - 1, place):
        raise NoPlace()
    shares = shares_by_values(model, (place,))
    return tuple([shares.get((value,), (0, 1)) for value in range(model.levels)])


def joint(model, places):
    """The dict from the values at a lot of at most 4 places to their shares, above 0."""
    if not is_lot_below(model.many, places) or len(places) > 4:
        raise NoPlaces()
    return shares_by_values(model, places)


def likeliest(model):
    """The least picture of the greatest weight, None if none fits."""
    held = model
    picture = ()
    for place in range(model.many):
        parts = left_over(held, (place,), greater)
        if parts == {}:
            return None
        most = max(parts.values())
        # Once all places ahead are held, the least value here that still comes to the greatest is the picture's.
        picture = picture + min([values for values, part in parts.items() if part == most])
        held = held_at(held, place, picture[place])
    return picture


def held_at(model, place, value):
    """The Model in which a place has weight 0 for all values but one."""
    if not is_within(0, model.many - 1, place):
        raise NoPlace()
    if not is_within(0, model.levels - 1, value):
        raise NoValue()
    weights = tuple([part if at == value else 0 for at, part in enumerate(model.weights[place])])
    return Model(model.many, model.levels, with_part(model.weights, place, weights), model.ties)
