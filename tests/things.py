"""What several tests need: odd things to pass, many systems, and shares by Python's own fractions."""

import random
from fractions import Fraction
from itertools import combinations, product

from asifforever import errors
from asifforever.desk import Desk
from asifforever.drawing import Drawer
from asifforever.models import Model
from asifforever.sampling import Sampler
from asifforever.systems import System

TWO = System(2, (((1, 3), (1, 0)), ((2, 3), (0, 0))))
# 0 is led out for ever; (1, 2) is a closed lot with rounds 2, (3,) one with rounds 1.
TWO_LOTS = System(4, (((1, 2), (1, 2, 1, 3)), ((1, 2), (3, 2, 1, 3))))
# 0 and 1 are led to one another, to and fro: rounds 2, no steady end is reached.
SWAP = System(2, (((1, 1), (1, 0)),))
# Two places of three values, the second of which weighs nothing at place 1; tied so that not both are 2.
MODEL = Model(2, 3, ((1, 2, 3), (4, 0, 6)), ((0, 1, ((1, 1, 1), (1, 5, 2), (7, 1, 0))),))


def nested(depth, make):
    """A thing within a thing, so deep."""
    thing = make(1)
    for _ in range(depth - 1):
        thing = make(thing)
    return thing


def odd_things():
    """Objects of all kinds that are no fraction, number, row, spread, lot or move of any system tried."""
    return [
        None, True, False, ..., NotImplemented, -1, -7, 10 ** 12 - 1, 1 - 10 ** 12, 10 ** 5000,
        "", "1", "0", "states 1", "\n", b"", b"\x00\x01", bytearray(b"\x00"), memoryview(b"\x00"),
        [], [0], [0, 1], [(1, 1)], [[(1, 1), [0]]], {}, {0: 0}, {0: (1, 1), 1: (0, 1)}, dict.fromkeys((0, 1)),
        (True,), (False, True), (None,), ("0",), ([0],), ({},), ((0,), 1), (-1,), (10 ** 11,), (1, -1), (2, 2), (0, 2),
        range(2), range(0), slice(0, 1), iter(()), iter([0]), enumerate(()), zip(), map(len, ()), reversed([0]),
        (k for k in ()), {}.keys(), {}.values(), {}.items(),
        object(), object, int, tuple, type, len, "".join, lambda: 0, property(), staticmethod(len), ValueError("0"),
        KeyError(0), errors.BadSystem("many"), errors.NoRow(), errors.NoRow, TWO, System, random, Fraction,
        MODEL, Model, Drawer(TWO), Drawer(TWO).lot, Sampler(Model(1, 1, ((1,),), ()), (False,)), Desk(), Desk().tell,
        nested(40, lambda thing: (thing,)), nested(40, lambda thing: [thing]), nested(40, lambda thing: {0: thing}),
        nested(40, lambda thing: (thing, thing)[:1] + (0,)),
        tuple([()] * 20000), [0] * 20000, (0,) * 20000, {k: 0 for k in range(20000)}, ((0, 1),) * 20000,
    ]


def with_one_changed(thing, others):
    """All tuples like this one in which just one thing, at any depth, is another."""
    for at, part in enumerate(thing):
        for other in others:
            yield thing[:at] + (other,) + thing[at + 1:]
        if isinstance(part, tuple):
            for changed in with_one_changed(part, others):
                yield thing[:at] + (changed,) + thing[at + 1:]


def pair(worth):
    """A Fraction as the package tells it."""
    worth = Fraction(worth)
    return (worth.numerator, worth.denominator)


def worth(share):
    """What a fraction of the package is worth."""
    return Fraction(*share)


def parted(chance, many):
    """A tuple of so many fractions above 0 that are 1 together."""
    parts = [chance.randint(1, 9) for _ in range(many)]
    return tuple(pair(Fraction(part, sum(parts))) for part in parts)


def any_system(chance, many, moves):
    """A system of so many states and moves, drawn."""
    leads = [tuple(chance.randrange(many) for _ in range(many)) for _ in range(moves)]
    return System(many, tuple(zip(parted(chance, moves), leads)))


def any_systems(seed, count, most):
    """So many systems of up to so many states."""
    chance = random.Random(seed)
    return [any_system(chance, chance.randint(1, most), chance.choice((1, 1, 2, 2, 3, 5))) for _ in range(count)]


def worth_of_steps(system):
    """The shares of steps, as Fractions, worked out straight from the moves."""
    table = [[Fraction(0)] * system.many for _ in range(system.many)]
    for share, leads in system.moves:
        for state in range(system.many):
            table[state][leads[state]] += worth(share)
    return table


def primes(count, start):
    """So many primes from start on."""
    found = []
    while len(found) < count:
        if all(start % k for k in range(2, int(start ** 0.5) + 1)):
            found.append(start)
        start += 1
    return found


def long_system():
    """24 moves of 12 states whose shares have bottoms without a common divisor, so that spreads get very long."""
    moves = []
    for at, prime in enumerate(primes(12, 10 ** 9)):
        part = Fraction(1, 12) / prime
        stay = tuple(range(12))
        turn = tuple((k + at + 1) % 12 for k in range(12))
        moves.append((pair(part), stay))
        moves.append((pair(Fraction(1, 12) - part), turn))
    return System(12, tuple(moves))


def led_by_hand(system, row):
    """What all states are led to by moves one behind another."""
    ends = []
    for state in range(system.many):
        for move in row:
            state = system.moves[move][1][state]
        ends.append(state)
    return ends


def lot_by_hand(system, row):
    """The lot of what all states are led to."""
    return tuple(sorted(set(led_by_hand(system, row))))


def all_rows(system, length):
    """All rows of so many moves, ascending."""
    return list(product(range(len(system.moves)), repeat=length))


def row_worth(system, row):
    """The share of a row as a Fraction."""
    share = Fraction(1)
    for move in row:
        share *= worth(system.moves[move][0])
    return share


def any_row(chance, system, length):
    """A row of so many moves, drawn."""
    return tuple(chance.randrange(len(system.moves)) for _ in range(length))


def slow(many):
    """So many states that merge by rows of (many - 1) ** 2 moves and no shorter ones, as Cerny found."""
    turn = tuple((k + 1) % many for k in range(many))
    return System(many, (((1, 2), turn), ((1, 2), (min(1, many - 1),) + tuple(range(1, many)))))


def any_ties(chance, many, levels, count, numbers):
    """Up to so many ties, drawn, none of them at a place that has four, of tables of these numbers."""
    pairs = []
    for pair_of in chance.sample(list(combinations(range(many), 2)), min(count, many * (many - 1) // 2)):
        if all(sum(place in other for other in pairs) < 4 for place in pair_of):
            pairs.append(pair_of)
    return tuple(
        (one, other, tuple(tuple(chance.choice(numbers) for _ in range(levels)) for _ in range(levels)))
        for one, other in sorted(pairs))


def any_model(chance, many, levels, count, numbers):
    """A model with up to so many ties, its weights and tables of these numbers."""
    weights = tuple(tuple(chance.choice(numbers) for _ in range(levels)) for _ in range(many))
    return Model(many, levels, weights, any_ties(chance, many, levels, count, numbers))


def any_models(seed, count):
    """So many models of few pictures."""
    chance = random.Random(seed)
    found = []
    for _ in range(count):
        many = chance.randint(1, 5)
        levels = chance.randint(1, 4 if many < 5 else 2)
        numbers = chance.choice(((1,), (0, 1), (0, 1, 1, 2), (1, 2, 3, 1000), (0, 5, 7)))
        found.append(any_model(chance, many, levels, chance.randint(0, 8), numbers))
    return found


def all_pictures(model):
    """All pictures of a model, ascending."""
    return list(product(range(model.levels), repeat=model.many))


def weight_by_hand(model, picture):
    """The weight of a picture, factor by factor."""
    factors = [model.weights[place][value] for place, value in enumerate(picture)]
    factors += [table[picture[one]][picture[other]] for one, other, table in model.ties]
    found = 1
    for factor in factors:
        found *= factor
    return found


def fitting_by_hand(model):
    """All pictures that fit, of all there are."""
    return [picture for picture in all_pictures(model) if weight_by_hand(model, picture) > 0]
