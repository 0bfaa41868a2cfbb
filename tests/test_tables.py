"""Promise 10.1, with 0.2 to 0.5: totals, shares, and the likeliest picture."""

import random
import unittest
from fractions import Fraction
from itertools import combinations, permutations, product

from asifforever.errors import NoOrdering, NoPicture, NoPlace, NoPlaces, NothingFits, NoValue
from asifforever.models import Model, colourings, sets_apart, spins, stacks
from asifforever.tables import held_at, joint, likeliest, share_of_picture, shares_at, total, total_by
from things import MODEL, all_pictures, any_model, any_models, odd_things, pair, weight_by_hand, with_one_changed

EVEN = sets_apart(2, ((0, 1),), 1)
RING = tuple(sorted([(k, k + 1) for k in range(11)] + [(0, 11)]))
NOTHING = (
    colourings(2, ((0, 1),), 1), colourings(3, ((0, 1), (0, 2), (1, 2)), 2), Model(2, 2, ((0, 0), (1, 1)), ()),
    Model(12, 4, ((1,) * 4,) * 11 + ((0,) * 4,), ()))


def total_by_hand(model):
    """The sum of the weights of all pictures."""
    return sum(weight_by_hand(model, picture) for picture in all_pictures(model))


def width_by_hand(model, order):
    """The width of an order, by the sets of places that stand in tables."""
    tables = [{place} for place in range(model.many)] + [{one, other} for one, other, _ in model.ties]
    widths = []
    for place in order:
        standing = set().union(*(table for table in tables if place in table))
        tables = [table for table in tables if place not in table] + [standing - {place}]
        widths.append(len(standing))
    return max(widths)


def joint_by_hand(model, places):
    """The dict from values at places to their shares, above 0."""
    found = {}
    for picture in all_pictures(model):
        values = tuple(picture[place] for place in places)
        found[values] = found.get(values, 0) + weight_by_hand(model, picture)
    whole = total_by_hand(model)
    return {values: pair(Fraction(part, whole)) for values, part in found.items() if part > 0}


def likeliest_by_hand(model):
    """The least picture of the greatest weight, None if none fits."""
    most = max(weight_by_hand(model, picture) for picture in all_pictures(model))
    return min(picture for picture in all_pictures(model) if weight_by_hand(model, picture) == most) if most else None


def by_rows(model):
    """The total, found place by place in their order by a dict of all values so far that still matter."""
    parts = {(): 1}
    for place in range(model.many):
        behind = {}
        for begun, part in parts.items():
            for value in range(model.levels):
                factor = model.weights[place][value]
                for one, other, table in model.ties:
                    if other == place:
                        factor *= table[begun[one]][value]
                kept = tuple(
                    old if any(one == at and other > place for one, other, _ in model.ties) else 0
                    for at, old in enumerate(begun + (value,)))
                behind[kept] = behind.get(kept, 0) + part * factor
        parts = behind
    return sum(parts.values())


class TotalTest(unittest.TestCase):
    def test_e07(self):
        self.assertEqual(total(EVEN), 3)

    def test_told_ones(self):
        self.assertEqual(total(sets_apart(2, ((0, 1),), 5)), 11)
        self.assertEqual(total(spins(2, ((0, 1),), 3, 2)), 10)
        self.assertEqual(total(Model(1, 3, ((1, 0, 3),), ())), 4)
        self.assertEqual(total(Model(3, 2, ((1, 2), (3, 4), (5, 6)), ())), 3 * 7 * 11)
        # Plane stacks in a box.
        self.assertEqual(total(stacks(2, 2, 2)), 20)
        self.assertEqual(total(stacks(3, 4, 3)), 4116)
        self.assertEqual(total(Model(12, 4, ((1000,) * 4,) * 12, ())), 4000 ** 12)
        # A ring of twelve: q - 1 to the power 12, and q - 1 more.
        self.assertEqual(total(colourings(12, RING, 4)), 3 ** 12 + 3)
        self.assertEqual(total(sets_apart(12, RING, 1)), 322)

    def test_against_all_pictures(self):
        for model in any_models(251, 200):
            found = total(model)
            self.assertEqual(found, total_by_hand(model))
            self.assertIs(type(found), int)

    def test_nothing_fits(self):
        for model in NOTHING:
            self.assertEqual(total(model), 0)
            self.assertEqual(total_by(model, tuple(range(model.many)))[0], 0)

    def test_models_of_twelve_places(self):
        chance = random.Random(252)
        for levels, count in ((2, 24), (3, 24), (4, 16), (4, 60)):
            model = any_model(chance, 12, levels, count, (0, 1, 1, 2, 1000))
            if levels < 4 or count < 24:
                self.assertEqual(total(model), by_rows(model))
            order = list(range(12))
            chance.shuffle(order)
            self.assertEqual(total_by(model, tuple(order)), (total(model), width_by_hand(model, order)))


class TotalByTest(unittest.TestCase):
    def test_told_ones(self):
        line = spins(3, ((0, 1), (1, 2)), 2, 1)
        self.assertEqual(total_by(line, (0, 1, 2)), (18, 2))
        self.assertEqual(total_by(line, (1, 0, 2)), (18, 3))
        self.assertEqual(total_by(Model(3, 2, ((1, 1),) * 3, ()), (2, 0, 1)), (8, 1))
        self.assertEqual(total_by(Model(1, 3, ((1, 0, 3),), ()), (0,)), (4, 1))
        self.assertEqual(total_by(Model(1, 1, ((0,),), ()), (0,)), (0, 1))
        star = sets_apart(5, ((0, 1), (0, 2), (0, 3), (0, 4)), 1)
        self.assertEqual(total_by(star, (0, 1, 2, 3, 4)), (17, 5))
        self.assertEqual(total_by(star, (4, 3, 2, 1, 0)), (17, 2))
        self.assertEqual(total_by(star, (1, 0, 2, 3, 4)), (17, 4))
        # Ties count as they stand, whatever their numbers.
        free = spins(5, ((0, 1), (0, 2), (0, 3), (0, 4)), 1, 1)
        self.assertEqual(total_by(free, (0, 1, 2, 3, 4)), (32, 5))
        none = spins(5, ((0, 1), (0, 2), (0, 3), (0, 4)), 0, 0)
        self.assertEqual(total_by(none, (0, 1, 2, 3, 4)), (0, 5))

    def test_all_orders(self):
        for model in [model for model in any_models(253, 60) if model.many < 5] + list(NOTHING[:3]):
            whole = total_by_hand(model)
            for order in permutations(range(model.many)):
                found = total_by(model, order)
                self.assertEqual(found, (whole, width_by_hand(model, order)))
                self.assertEqual([type(part) for part in found], [int, int])

    def test_no_ordering(self):
        for order in (
                (), (0,), (0, 0), (0, 2), (1, -1), (0, 1, 2), (0, 1, 1), [0, 1], (0, True), (False, 1), "01", None, 0,
                {0: 0, 1: 1}, range(2), ((0, 1),), (0, None)):
            self.assertRaises(NoOrdering, total_by, EVEN, order)
            self.assertRaises(NoOrdering, total_by, NOTHING[0], order)
        for order in odd_things() + list(with_one_changed((1, 0), odd_things())):
            self.assertRaises(NoOrdering, total_by, EVEN, order)


class SharesTest(unittest.TestCase):
    def test_told_ones(self):
        self.assertEqual([share_of_picture(EVEN, picture) for picture in all_pictures(EVEN)], [(1, 3)] * 3 + [(0, 1)])
        self.assertEqual(shares_at(EVEN, 0), ((2, 3), (1, 3)))
        self.assertEqual(shares_at(Model(2, 3, ((1, 0, 3), (1, 1, 1)), ()), 0), ((1, 4), (0, 1), (3, 4)))
        self.assertEqual(joint(EVEN, (0, 1)), {(0, 0): (1, 3), (0, 1): (1, 3), (1, 0): (1, 3)})
        self.assertEqual(joint(EVEN, (1,)), {(0,): (2, 3), (1,): (1, 3)})
        self.assertEqual(joint(EVEN, ()), {(): (1, 1)})
        self.assertEqual(joint(Model(2, 3, ((1, 0, 3), (1, 1, 1)), ()), (0,)), {(0,): (1, 4), (2,): (3, 4)})
        self.assertEqual(share_of_picture(Model(1, 1, ((7,),), ()), (0,)), (1, 1))

    def test_against_all_pictures(self):
        for model in any_models(254, 120):
            whole = total_by_hand(model)
            if whole:
                for picture in all_pictures(model)[:50]:
                    found = share_of_picture(model, picture)
                    self.assertEqual(found, pair(Fraction(weight_by_hand(model, picture), whole)))
                for place in range(model.many):
                    shares = joint_by_hand(model, (place,))
                    found = shares_at(model, place)
                    self.assertEqual(found, tuple(shares.get((value,), (0, 1)) for value in range(model.levels)))
                for many in range(min(4, model.many) + 1):
                    for places in combinations(range(model.many), many):
                        found = joint(model, places)
                        self.assertEqual(found, joint_by_hand(model, places))
                        self.assertIs(type(found), dict)

    def test_a_new_dict_each_time(self):
        found = joint(EVEN, (0,))
        found.clear()
        self.assertEqual(joint(EVEN, (0,)), {(0,): (2, 3), (1,): (1, 3)})

    def test_models_of_twelve_places(self):
        chance = random.Random(255)
        for levels in (2, 3, 4):
            model = any_model(chance, 12, levels, 24, (1, 1, 2, 0, 5, 5))
            while total(model) == 0:
                model = any_model(chance, 12, levels, 24, (1, 1, 2, 0, 5, 5))
            whole = total(model)
            for place in range(12):
                parts = [total(held_at(model, place, value)) for value in range(levels)]
                self.assertEqual(shares_at(model, place), tuple(pair(Fraction(part, whole)) for part in parts))
            places = tuple(sorted(chance.sample(range(12), 4)))
            found = joint(model, places)
            for values in product(range(levels), repeat=4):
                held = model
                for place, value in zip(places, values):
                    held = held_at(held, place, value)
                part = total(held)
                self.assertEqual(found.get(values), pair(Fraction(part, whole)) if part else None)
            picture = likeliest(model)
            self.assertEqual(share_of_picture(model, picture), pair(Fraction(weight_by_hand(model, picture), whole)))

    def test_no_picture(self):
        for picture in (
                (), (0,), (0, 0, 0), (0, 2), (-1, 0), [0, 0], (0, True), (False, 0), "00", 0, None, {0: 0, 1: 0}):
            self.assertRaises(NoPicture, share_of_picture, EVEN, picture)
            self.assertRaises(NoPicture, share_of_picture, NOTHING[0], picture)
        for picture in odd_things() + list(with_one_changed((1, 0), odd_things())):
            self.assertRaises(NoPicture, share_of_picture, EVEN, picture)
        self.assertRaises(NoPicture, share_of_picture, NOTHING[0], (0, 1))

    def test_no_place(self):
        for place in odd_things() + [2, 3, 12, (0,), [0], "0"]:
            self.assertRaises(NoPlace, shares_at, EVEN, place)
            self.assertRaises(NoPlace, shares_at, NOTHING[0], place)

    def test_no_places(self):
        model = spins(6, ((0, 1),), 1, 2)
        self.assertEqual(len(joint(model, (0, 1, 2, 5))), 16)
        for places in (
                (0, 1, 2, 3, 4), (1, 0), (0, 0), (0, 2, 1), (6,), (0, 6), (-1, 0), [0], [], (True,), (0, True), "0", 0,
                None, {}, {0: 0}, ((0,),), (None,), range(1), range(6), (0, 1, 2, 3, 4, 5)):
            self.assertRaises(NoPlaces, joint, model, places)
        for places in ((2,), (1, 0), [0], None, (0, 1, 2, 3, 4)):
            self.assertRaises(NoPlaces, joint, NOTHING[0], places)
        for places in odd_things() + list(with_one_changed((0, 1), odd_things())):
            if not (type(places) is tuple and places == (0, 2)):
                self.assertRaises(NoPlaces, joint, model, places)
        self.assertEqual(joint(model, (0, 2))[0, 0], (1, 4))

    def test_nothing_fits(self):
        for model in NOTHING:
            self.assertRaises(NothingFits, share_of_picture, model, (0,) * model.many)
            for place in range(model.many):
                self.assertRaises(NothingFits, shares_at, model, place)
                self.assertRaises(NothingFits, joint, model, (place,))
            self.assertRaises(NothingFits, joint, model, ())


class LikeliestTest(unittest.TestCase):
    def test_told_ones(self):
        self.assertEqual(likeliest(EVEN), (0, 0))
        self.assertEqual(likeliest(sets_apart(2, ((0, 1),), 2)), (0, 1))
        self.assertEqual(likeliest(spins(3, ((0, 1), (1, 2)), 1, 2)), (0, 1, 0))
        self.assertEqual(likeliest(Model(2, 4, ((1, 3, 3, 2), (0, 0, 5, 5)), ())), (1, 2))
        self.assertEqual(likeliest(Model(1, 1, ((7,),), ())), (0,))
        for model in NOTHING:
            self.assertIsNone(likeliest(model))

    def test_against_all_pictures(self):
        counted = [0, 0]
        for model in any_models(256, 250):
            found = likeliest(model)
            self.assertEqual(found, likeliest_by_hand(model))
            counted[found is None] += 1
        self.assertGreater(min(counted), 20)

    def test_models_of_twelve_places(self):
        chance = random.Random(257)
        self.assertEqual(likeliest(colourings(12, RING, 3)), (0, 1) * 6)
        self.assertEqual(likeliest(Model(12, 4, ((1, 2, 2, 1),) * 12, ())), (1,) * 12)
        for _ in range(3):
            model = any_model(chance, 12, 2, 24, (1, 2, 3, 4))
            found = likeliest(model)
            most = weight_by_hand(model, found)
            for picture in all_pictures(model):
                part = weight_by_hand(model, picture)
                self.assertLessEqual(part, most)
                if part == most:
                    self.assertGreaterEqual(picture, found)


class HeldAtTest(unittest.TestCase):
    def test_told_ones(self):
        held = held_at(MODEL, 0, 1)
        self.assertEqual(held, Model(2, 3, ((0, 2, 0), (4, 0, 6)), MODEL.ties))
        self.assertEqual(held_at(held, 0, 2), Model(2, 3, ((0, 0, 0), (4, 0, 6)), MODEL.ties))
        self.assertEqual(held_at(MODEL, 1, 1).weights, ((1, 2, 3), (0, 0, 0)))
        self.assertEqual(MODEL.weights, ((1, 2, 3), (4, 0, 6)))

    def test_the_fourteenth_step(self):
        for model in [model for model in any_models(258, 80) if total_by_hand(model)]:
            for place in range(model.many):
                for value in range(model.levels):
                    held = held_at(model, place, value)
                    share = shares_at(model, place)[value]
                    self.assertEqual(total(held) == 0, share == (0, 1))
                    for other in [other for other in range(model.many) if other != place]:
                        if share == (0, 1):
                            self.assertRaises(NothingFits, shares_at, held, other)
                            continue
                        places = tuple(sorted([place, other]))
                        parts = [Fraction(0)] * model.levels
                        for values, part in joint(model, places).items():
                            if values[places.index(place)] == value:
                                parts[values[places.index(other)]] += Fraction(*part)
                        shares = tuple(pair(part / sum(parts)) for part in parts)
                        self.assertEqual(shares_at(held, other), shares)

    def test_no_place_then_no_value(self):
        for thing in odd_things() + [3, 4, (0,), [0], "0"]:
            self.assertRaises(NoPlace, held_at, MODEL, thing, 0)
            self.assertRaises(NoPlace, held_at, MODEL, thing, None)
            self.assertRaises(NoValue, held_at, MODEL, 0, thing)
        self.assertRaises(NoPlace, held_at, MODEL, 2, 0)
        self.assertEqual(held_at(MODEL, 0, 2).weights[0], (0, 0, 3))

    def test_arguments_stay_as_they_are(self):
        weights, ties = MODEL.weights, MODEL.ties
        total(MODEL)
        likeliest(MODEL)
        joint(MODEL, (0, 1))
        self.assertEqual((MODEL.weights, MODEL.ties), (weights, ties))


if __name__ == "__main__":
    unittest.main()
