"""Models: places with values, the weights of these, and ties between places that weigh pairs of values."""

from asifforever.basics import is_lot_of_couples, is_row_below, is_within
from asifforever.errors import BadModel, NoPairs, NoPicture, NoSizes, TooMany


class Model:
    """1 to 12 places, 1 to 4 levels, a row of weights for each place, ties as triples (one, other, table)."""

    def __init__(self, many, levels, weights, ties):
        if not is_within(1, 12, many):
            raise BadModel("many")
        if not is_within(1, 4, levels):
            raise BadModel("levels")
        if not is_table(many, levels, weights):
            raise BadModel("weights")
        if not isinstance(ties, tuple):
            raise BadModel("ties")
        last = (0, 0)
        for number, tie in enumerate(ties):
            if not is_tie(many, levels, tie) or tie[:2] <= last:
                raise BadModel(number)
            last = tie[:2]
        if any([ties_at(ties, place) > 4 for place in range(many)]):
            raise BadModel("crowded")
        self.many = many
        self.levels = levels
        self.weights = weights
        self.ties = ties

    def __eq__(self, other):
        return (isinstance(other, Model) and self.many == other.many and self.levels == other.levels
                and self.weights == other.weights and self.ties == other.ties)


def is_table(rows, columns, thing):
    """Whether a thing is a tuple of so many tuples of so many numbers up to 1000."""
    if not isinstance(thing, tuple) or len(thing) != rows:
        return False
    return all([isinstance(row, tuple) and len(row) == columns and is_row_below(1001, row) for row in thing])


def is_tie(many, levels, thing):
    """Whether a thing is a triple (one, other, table), one less than other, of so many places and levels."""
    if not isinstance(thing, tuple) or len(thing) != 3:
        return False
    one, other, table = thing
    return is_within(0, many - 1, other) and is_within(0, other - 1, one) and is_table(levels, levels, table)


def ties_at(ties, place):
    """How many ties a place has."""
    return len([one for one, other, _ in ties if place in (one, other)])


def is_picture(model, thing):
    """Whether a thing is a picture of the model."""
    return is_row_below(model.levels, thing) and len(thing) == model.many


def weight(model, picture):
    """The product of the weights of a picture's values and of its ties' numbers."""
    if not is_picture(model, picture):
        raise NoPicture()
    found = 1
    for value, row in zip(picture, model.weights):
        found = found * row[value]
    for one, other, table in model.ties:
        found = found * table[picture[one]][picture[other]]
    return found


def goes_on(model, begun, value):
    """Whether a value behind those begun with has a weight above 0 by itself and by its ties to them."""
    place = len(begun)
    numbers = [table[begun[one]][value] for one, other, table in model.ties if other == place]
    return model.weights[place][value] > 0 and 0 not in numbers


def fitting_from(model, begun, most, dead):
    """The first pictures, at most so many, that fit and begin so; dead keeps what none goes on from."""
    place = len(begun)
    if place == model.many:
        return [begun]
    # What can still come depends on those places alone that have ties to it.
    key = (place, tuple([begun[one] for one, other, _ in model.ties if one < place <= other]))
    found = []
    if key in dead:
        return found
    for value in range(model.levels):
        if len(found) < most and goes_on(model, begun, value):
            found.extend(fitting_from(model, begun + (value,), most - len(found), dead))
    if found == []:
        dead[key] = True
    return found


def first_fitting(model, most):
    """The first pictures that fit, ascending, at most so many."""
    return fitting_from(model, (), most, {})


def fitting(model):
    """The ascending list of all pictures that fit."""
    found = first_fitting(model, 1001)
    if len(found) > 1000:
        raise TooMany(1000)
    return found


def check_pairs(many, pairs):
    """Raises an error unless there are so many places, and pairs is a lot of pairs of them, the lesser first."""
    if not is_within(1, 12, many):
        raise BadModel("many")
    if not is_lot_of_couples(many, pairs):
        raise NoPairs()


def tied_alike(many, levels, weights, pairs, table):
    """The Model in which all places have the same weights, and each of the pairs the same table."""
    check_pairs(many, pairs)
    return Model(many, levels, (weights,) * many, tuple([(one, other, table) for one, other in pairs]))


def spins(many, pairs, same, other):
    """The Model of two values, with a number where both of a pair are one and another where they are not."""
    return tied_alike(many, 2, (1, 1), pairs, ((same, other), (other, same)))


def sets_apart(many, pairs, number):
    """The Model of sets of places, each place weighing a number, that have no pair within them."""
    return tied_alike(many, 2, (1, number), pairs, ((1, 1), (1, 0)))


def colourings(many, pairs, values):
    """The Model of so many values in which both of a pair are never one."""
    check_pairs(many, pairs)
    if not is_within(1, 4, values):
        raise BadModel("levels")
    table = tuple([tuple([0 if one == other else 1 for other in range(values)]) for one in range(values)])
    return tied_alike(many, values, (1,) * values, pairs, table)


def stacks(rows, columns, most):
    """The Model of places row by row, with values that do not rise along a row or a column."""
    if not is_within(1, 12, rows) or not is_within(1, 12, columns) or rows * columns > 12 or not is_within(0, 3, most):
        raise NoSizes()
    many = rows * columns
    across = [(place, place + 1) for place in range(many) if (place + 1) % columns > 0]
    down = [(place, place + columns) for place in range(many - columns)]
    table = tuple([tuple([1 if other <= one else 0 for other in range(most + 1)]) for one in range(most + 1)])
    return tied_alike(many, most + 1, (1,) * (most + 1), tuple(sorted(across + down)), table)
