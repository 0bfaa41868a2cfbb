"""Promises 8.1 and 8.4, with 0.2 to 0.5: models, their pictures, and four kinds of them."""

import random
import unittest
from itertools import combinations, product

from asifforever.errors import BadModel, NoPairs, NoPicture, NoSizes, TooMany
from asifforever.models import Model, colourings, fitting, sets_apart, spins, stacks, weight
from things import (
    MODEL, all_pictures, any_model, any_models, fitting_by_hand, odd_things, weight_by_hand, with_one_changed)

ONES = ((1, 1), (1, 1))
# Twelve places of four values without ties.
FREE = Model(12, 4, ((1,) * 4,) * 12, ())


def part_of(*arguments):
    """The part of the BadModel that making a model meets."""
    try:
        Model(*arguments)
    except BadModel as wrong:
        return wrong.part
    return None


def part_by(function, *arguments):
    """The part of the BadModel that a function meets."""
    try:
        function(*arguments)
    except BadModel as wrong:
        return wrong.part
    return None


def web(*pairs):
    """Ties of two values between pairs of places, all of them alike."""
    return tuple((one, other, ONES) for one, other in pairs)


def table_by_hand(rows, columns, thing):
    """Whether a thing is a table of numbers up to 1000."""
    return type(thing) is tuple and len(thing) == rows and all(
        type(row) is tuple and len(row) == columns and all(type(k) is int and 0 <= k <= 1000 for k in row)
        for row in thing)


def part_by_hand(many, levels, weights, ties):
    """The part that BadModel should have, None for a model; many and levels are right."""
    if not table_by_hand(many, levels, weights):
        return "weights"
    if type(ties) is not tuple:
        return "ties"
    pairs = []
    for number, tie in enumerate(ties):
        if type(tie) is not tuple or len(tie) != 3 or type(tie[0]) is not int or type(tie[1]) is not int:
            return number
        if not 0 <= tie[0] < tie[1] < many or not table_by_hand(levels, levels, tie[2]):
            return number
        pairs.append(tie[:2])
        if pairs != sorted(set(pairs)):
            return number
    return "crowded" if any(sum(place in pair for pair in pairs) > 4 for place in range(many)) else None


class ModelTest(unittest.TestCase):
    def test_attributes(self):
        ties = ((0, 1, ((1, 0, 2), (3, 4, 5), (6, 7, 1000))), (0, 2, ((1, 1, 1),) * 3), (1, 2, ((0, 0, 0),) * 3))
        model = Model(3, 3, ((1, 2, 3), (0, 0, 1000), (0, 0, 0)), ties)
        self.assertEqual((model.many, model.levels), (3, 3))
        self.assertEqual(model.weights, ((1, 2, 3), (0, 0, 1000), (0, 0, 0)))
        self.assertEqual(model.ties, ties)
        self.assertEqual(sorted(vars(model)), ["levels", "many", "ties", "weights"])

    def test_sizes(self):
        for many in range(1, 13):
            for levels in range(1, 5):
                self.assertIsNone(part_of(many, levels, ((1,) * levels,) * many, ()))
        self.assertEqual(part_of(0, 2, (), ()), "many")
        self.assertEqual(part_of(13, 2, ((1, 1),) * 13, ()), "many")
        self.assertEqual(part_of(2, 0, ((), ()), ()), "levels")
        self.assertEqual(part_of(2, 5, ((1,) * 5,) * 2, ()), "levels")

    def test_weights(self):
        self.assertIsNone(part_of(2, 2, ((0, 1000), (1, 0)), ()))
        for weights in (
                (), ((1, 1),), ((1, 1),) * 3, ((1, 1), (1,)), ((1, 1), (1, 1, 1)), ((1, 1), (1, -1)),
                ((1, 1), (1, 1001)), ((1, 1), (True, 1)), ((1, 1), [1, 1]), [(1, 1), (1, 1)], ((1, 1), "11"), (1, 1),
                ((1, 1), None), ((1, 1), (1, None)), ((1, 1), ((1,), (1,))), None):
            self.assertEqual(part_of(2, 2, weights, ()), "weights", weights)

    def test_ties_that_are_none(self):
        good = (0, 1, ONES)
        for ties in (None, [], [good], {}, "", 0, good[2][0][0]):
            self.assertEqual(part_of(4, 2, ((1, 1),) * 4, ties), "ties")
        for tie in (
                None, (), (2, 3), (2, 3, ONES, ONES), [2, 3, ONES], (3, 2, ONES), (2, 2, ONES), (2, 4, ONES),
                (-1, 3, ONES), (2, "3", ONES), (True, 3, ONES), (2, 3, [(1, 1), (1, 1)]), (2, 3, ((1, 1),)),
                (2, 3, ((1, 1),) * 3), (2, 3, ((1, 1), (1,))), (2, 3, ((1, 1), (1, 1, 1))), (2, 3, ((1, 1), [1, 1])),
                (2, 3, ((1, 1), (1, 1001))), (2, 3, ((1, 1), (1, -1))), (2, 3, ((1, 1), (1, True))), (2, 3, None),
                (2, 3, (1, 1, 1, 1)), (2, None, ONES), ((2, 3), ONES), (2, 3, 1)):
            self.assertEqual(part_of(4, 2, ((1, 1),) * 4, (tie,)), 0, tie)
            self.assertEqual(part_of(4, 2, ((1, 1),) * 4, (good, tie)), 1, tie)
            self.assertEqual(part_of(4, 2, ((1, 1),) * 4, (good, tie, None)), 1, tie)
        self.assertIsNone(part_of(4, 2, ((1, 1),) * 4, (good, (2, 3, ((0, 1000), (1, 1))))))

    def test_order_of_ties(self):
        def of(*pairs):
            return part_of(4, 2, ((1, 1),) * 4, web(*pairs))

        self.assertIsNone(of(*combinations(range(4), 2)))
        self.assertEqual(of((0, 1), (0, 1)), 1)
        self.assertEqual(of((0, 2), (0, 1)), 1)
        self.assertEqual(of((1, 2), (0, 3)), 1)
        self.assertEqual(of((0, 1), (0, 3), (0, 2), (1, 0)), 2)
        self.assertEqual(of((0, 1), (1, 0)), 1)
        self.assertEqual(of((0, 1), (0, 2), (0, 2), (0, 2)), 2)

    def test_crowded(self):
        def of(*pairs):
            return part_of(6, 2, ((1, 1),) * 6, web(*pairs))

        self.assertIsNone(of((0, 1), (0, 2), (0, 3), (0, 4)))
        self.assertEqual(of((0, 1), (0, 2), (0, 3), (0, 4), (0, 5)), "crowded")
        self.assertIsNone(of((0, 5), (1, 5), (2, 5), (3, 5)))
        self.assertEqual(of((0, 5), (1, 5), (2, 5), (3, 5), (4, 5)), "crowded")
        self.assertIsNone(of((0, 2), (1, 2), (2, 3), (2, 4)))
        self.assertEqual(of((0, 2), (1, 2), (2, 3), (2, 4), (2, 5)), "crowded")
        # All pairs of five places are four at each.
        self.assertIsNone(of(*combinations(range(5), 2)))
        self.assertEqual(of(*combinations(range(6), 2)), "crowded")

    def test_two_wrong_at_once(self):
        self.assertEqual(part_of(0, 0, None, None), "many")
        self.assertEqual(part_of(None, 5, (), ()), "many")
        self.assertEqual(part_of(2, 5, None, None), "levels")
        self.assertEqual(part_of(2, 2, None, None), "weights")
        self.assertEqual(part_of(2, 2, ((1, 1001), (1, 1)), ((0, 2, ONES),)), "weights")
        crowd = web(*combinations(range(6), 2))
        self.assertEqual(part_of(6, 2, ((1, 1),) * 6, crowd + (None,)), 15)
        self.assertEqual(part_of(6, 2, ((1, 1),) * 6, crowd[:9] + (None,) + crowd[9:]), 9)
        self.assertEqual(part_of(6, 2, ((1, 1),) * 6, (crowd[1], crowd[0], None)), 1)

    def test_anything_may_be_passed(self):
        for thing in odd_things():
            self.assertEqual(part_of(thing, 2, ((1, 1),), ()), "many")
            if thing is not True:
                self.assertEqual(part_of(1, thing, ((1, 1),), ()), "levels")
            self.assertEqual(part_of(2, 2, thing, ()), "weights")
            self.assertEqual(part_of(2, 2, ((1, 1), thing), ()), part_by_hand(2, 2, ((1, 1), thing), ()))
            self.assertEqual(part_of(2, 2, ((1, 1),) * 2, thing), part_by_hand(2, 2, ((1, 1),) * 2, thing))
            self.assertEqual(part_of(2, 2, ((1, 1),) * 2, (thing,)), 0)
        self.assertEqual(part_of(1, True, ((1,),), ()), "levels")
        self.assertEqual(part_of(True, 1, ((1,),), ()), "many")

    def test_anything_may_stand_inside(self):
        weights = ((1, 1),) * 3
        ties = ((0, 1, ONES), (1, 2, ONES))
        for changed in with_one_changed(weights, odd_things()):
            self.assertEqual(part_of(3, 2, changed, ties), part_by_hand(3, 2, changed, ties))
        for changed in with_one_changed(ties, odd_things()):
            self.assertEqual(part_of(3, 2, weights, changed), part_by_hand(3, 2, weights, changed))

    def test_equality(self):
        same = Model(2, 3, ((1, 2, 3), (4, 0, 6)), ((0, 1, ((1, 1, 1), (1, 5, 2), (7, 1, 0))),))
        self.assertTrue(MODEL == same)
        self.assertFalse(MODEL != same)
        for other in (
                Model(2, 3, ((1, 2, 3), (4, 0, 6)), ()), Model(2, 3, ((1, 2, 3), (4, 0, 5)), MODEL.ties),
                Model(2, 3, MODEL.weights, ((0, 1, ((1, 1, 1), (1, 5, 2), (7, 1, 1))),)), FREE):
            self.assertFalse(MODEL == other)
            self.assertTrue(MODEL != other)
        self.assertFalse(Model(1, 1, ((1,),), ()) == Model(2, 1, ((1,), (1,)), ()))
        self.assertFalse(Model(1, 1, ((1,),), ()) == Model(1, 2, ((1, 1),), ()))

    def test_equal_to_nothing_of_another_class(self):
        class Alike:
            many, levels, weights, ties = MODEL.many, MODEL.levels, MODEL.weights, MODEL.ties

            def __eq__(self, other):
                return True

        for thing in odd_things() + [(MODEL.many, MODEL.levels, MODEL.weights, MODEL.ties), 2, Alike()]:
            if thing is not MODEL:
                self.assertFalse(MODEL == thing)
                self.assertTrue(MODEL != thing)


class WeightTest(unittest.TestCase):
    def test_told_ones(self):
        self.assertEqual(weight(MODEL, (0, 0)), 4)
        self.assertEqual(weight(MODEL, (0, 1)), 0)
        self.assertEqual(weight(MODEL, (1, 2)), 2 * 6 * 2)
        self.assertEqual(weight(MODEL, (2, 0)), 3 * 4 * 7)
        self.assertEqual(weight(MODEL, (2, 2)), 0)
        great = Model(5, 1, ((1000,),) * 5, tuple((one, other, ((1000,),)) for one, other in combinations(range(5), 2)))
        self.assertEqual(weight(great, (0,) * 5), 1000 ** 15)

    def test_against_the_product_by_hand(self):
        for model in any_models(111, 80):
            for picture in all_pictures(model):
                self.assertEqual(weight(model, picture), weight_by_hand(model, picture))

    def test_no_pictures(self):
        for picture in (
                (), (0,), (0, 0, 0), (0, 3), (-1, 0), (3, 3), [0, 0], (0, True), (False, 0), "00", ("0", "0"), 0, None,
                {0: 0, 1: 0}, ((0, 0),), (0, (0,)), (0, None)):
            self.assertRaises(NoPicture, weight, MODEL, picture)
        for picture in odd_things() + list(with_one_changed((1, 0), odd_things())):
            if not (isinstance(picture, tuple) and picture in ((0, 2), (2, 2))):
                self.assertRaises(NoPicture, weight, MODEL, picture)


class FittingTest(unittest.TestCase):
    def test_e05(self):
        self.assertEqual(fitting(sets_apart(2, ((0, 1),), 1)), [(0, 0), (0, 1), (1, 0)])

    def test_told_ones(self):
        self.assertEqual(fitting(MODEL), [(0, 0), (0, 2), (1, 0), (1, 2), (2, 0)])
        self.assertEqual(fitting(Model(1, 1, ((1,),), ())), [(0,)])
        self.assertEqual(fitting(Model(1, 1, ((0,),), ())), [])
        self.assertEqual(fitting(Model(1, 4, ((0, 1, 0, 1000),), ())), [(1,), (3,)])

    def test_against_all_pictures(self):
        chance = random.Random(112)
        models = any_models(113, 150)
        models += [any_model(chance, 6, 2, 15, (0, 1, 1)) for _ in range(20)]
        models += [any_model(chance, 9, 2, 18, (0, 1, 1, 1)) for _ in range(20)]
        models += [any_model(chance, 5, 4, 10, (0, 0, 1)) for _ in range(10)]
        for model in models:
            found = fitting_by_hand(model)
            if len(found) > 1000:
                self.assert_too_many(model)
            else:
                self.assertEqual(fitting(model), found)

    def test_none_that_fits(self):
        self.assertEqual(fitting(Model(12, 4, ((1,) * 4,) * 11 + ((0,) * 4,), ())), [])
        none = ((0,) * 4,) * 4
        self.assertEqual(fitting(Model(12, 4, ((1,) * 4,) * 12, ((10, 11, none),))), [])
        self.assertEqual(fitting(Model(12, 4, ((1,) * 4,) * 12, ((0, 11, none),))), [])
        # Five places, all tied, have no colours in four.
        self.assertEqual(fitting(colourings(5, tuple(combinations(range(5), 2)), 4)), [])
        self.assertEqual(fitting(colourings(3, tuple(combinations(range(3), 2)), 2)), [])

    def test_far_ties(self):
        # Equal at both ends of a long row, and unlike next to one another.
        same = tuple(tuple(int(one == other) for other in range(4)) for one in range(4))
        ties = tuple(sorted([(0, 11, same), (1, 10, same), (2, 9, same), (3, 8, same), (4, 7, same), (5, 6, same)]))
        weights = ((1, 1, 0, 0),) * 6 + ((0, 1, 1, 0),) * 6
        self.assertEqual(fitting(Model(12, 4, weights, ties)), [(1,) * 12])
        weights = ((1, 1, 0, 0),) * 6 + ((0, 0, 1, 1),) * 6
        self.assertEqual(fitting(Model(12, 4, weights, ties)), [])

    def assert_too_many(self, model):
        with self.assertRaises(TooMany) as found:
            fitting(model)
        self.assertEqual(found.exception.most, 1000)

    def test_a_thousand_and_one_more(self):
        self.assert_too_many(FREE)
        self.assert_too_many(Model(5, 4, ((1,) * 4,) * 5, ()))
        self.assert_too_many(Model(12, 2, ((1, 1),) * 12, ()))
        self.assertEqual(len(fitting(Model(9, 2, ((1, 1),) * 9, ()))), 512)
        self.assert_too_many(Model(10, 2, ((1, 1),) * 10, ()))
        thousand = model_of((10, 10, 10))
        self.assertEqual(len(fitting_by_hand(thousand)), 1000)
        self.assertEqual(fitting(thousand), fitting_by_hand(thousand))
        one_more = model_of((7, 11, 13))
        self.assertEqual(len(fitting_by_hand(one_more)), 1001)
        self.assert_too_many(one_more)
        self.assertEqual(len(fitting(model_of((9, 10, 11)))), 990)

    def test_the_list_is_new(self):
        fitting(MODEL).clear()
        self.assertEqual(len(fitting(MODEL)), 5)


def model_of(counts):
    """A model of six places in three pairs, each of which has so many pairs of values."""
    ties = []
    for at, count in enumerate(counts):
        flat = (1,) * count + (0,) * (16 - count)
        ties.append((2 * at, 2 * at + 1, tuple(flat[k:k + 4] for k in (0, 4, 8, 12))))
    return Model(6, 4, ((1,) * 4,) * 6, tuple(ties))


class KindsTest(unittest.TestCase):
    def test_spins(self):
        table = ((5, 2), (2, 5))
        self.assertEqual(
            spins(3, ((0, 1), (1, 2)), 5, 2), Model(3, 2, ((1, 1),) * 3, ((0, 1, table), (1, 2, table))))
        self.assertEqual(spins(1, (), 5, 2), Model(1, 2, ((1, 1),), ()))
        self.assertEqual(spins(2, ((0, 1),), 0, 1000).ties, ((0, 1, ((0, 1000), (1000, 0))),))
        self.assertIsInstance(spins(12, ((10, 11),), 1, 1), Model)

    def test_sets_apart(self):
        table = ((1, 1), (1, 0))
        self.assertEqual(
            sets_apart(3, ((0, 2), (1, 2)), 7), Model(3, 2, ((1, 7),) * 3, ((0, 2, table), (1, 2, table))))
        self.assertEqual(sets_apart(12, (), 0), Model(12, 2, ((1, 0),) * 12, ()))
        self.assertEqual(sets_apart(1, (), 1000).weights, ((1, 1000),))

    def test_colourings(self):
        table = ((0, 1, 1), (1, 0, 1), (1, 1, 0))
        self.assertEqual(
            colourings(3, ((0, 1), (1, 2)), 3), Model(3, 3, ((1, 1, 1),) * 3, ((0, 1, table), (1, 2, table))))
        self.assertEqual(colourings(2, ((0, 1),), 1), Model(2, 1, ((1,),) * 2, ((0, 1, ((0,),)),)))
        for values in (1, 2, 3, 4):
            self.assertEqual(len(fitting(colourings(3, ((0, 1), (0, 2), (1, 2)), values))),
                             values * (values - 1) * (values - 2))

    def test_stacks(self):
        falls = ((1, 0, 0), (1, 1, 0), (1, 1, 1))
        self.assertEqual(stacks(1, 1, 2), Model(1, 3, ((1, 1, 1),), ()))
        self.assertEqual(stacks(1, 3, 2), Model(3, 3, ((1, 1, 1),) * 3, ((0, 1, falls), (1, 2, falls))))
        self.assertEqual(stacks(3, 1, 2), stacks(1, 3, 2))
        pairs = ((0, 1), (0, 3), (1, 2), (1, 4), (2, 5), (3, 4), (4, 5))
        self.assertEqual(stacks(2, 3, 2), Model(6, 3, ((1, 1, 1),) * 6, tuple(pair + (falls,) for pair in pairs)))
        self.assertEqual(stacks(2, 2, 0), Model(4, 1, ((1,),) * 4, tuple(
            pair + (((1,),),) for pair in ((0, 1), (0, 2), (1, 3), (2, 3)))))

    def test_pictures_of_stacks(self):
        for rows, columns in product(range(1, 13), repeat=2):
            for most in range(4):
                if rows * columns <= 5 or (rows * columns <= 9 and most < 2):
                    found = []
                    for picture in product(range(most + 1), repeat=rows * columns):
                        across = all(
                            picture[r * columns + c] >= picture[r * columns + c + 1]
                            for r in range(rows) for c in range(columns - 1))
                        along = all(
                            picture[r * columns + c] >= picture[(r + 1) * columns + c]
                            for r in range(rows - 1) for c in range(columns))
                        if across and along:
                            found.append(picture)
                    self.assertEqual(fitting(stacks(rows, columns, most)), found)
        # Plane partitions in a box of 2, 2 and 2, and of 3, 4 and 3, by MacMahon's formula.
        self.assertEqual(len(fitting(stacks(2, 2, 2))), 20)
        self.assertEqual(len(fitting(stacks(3, 2, 3))), 175)
        self.assertEqual(len(fitting(stacks(3, 3, 3))), 980)
        self.assertRaises(TooMany, fitting, stacks(3, 4, 3))

    def test_no_sizes(self):
        for sizes in (
                (0, 1, 1), (1, 0, 1), (-1, -1, 1), (13, 1, 1), (1, 13, 1), (2, 7, 1), (5, 3, 1), (4, 4, 1), (1, 1, 4),
                (1, 1, -1), (999999999999, 1, 1), (True, 1, 1), (1, True, 1), (1, 1, True), ("1", 1, 1), (-3, -4, 1)):
            self.assertRaises(NoSizes, stacks, *sizes)
        for sizes in ((12, 1, 3), (1, 12, 0), (3, 4, 3), (4, 3, 1), (6, 2, 2)):
            self.assertEqual(stacks(*sizes).many, 12)
        for thing in odd_things():
            self.assertRaises(NoSizes, stacks, thing, 2, 1)
            self.assertRaises(NoSizes, stacks, 2, thing, 1)
            self.assertRaises(NoSizes, stacks, 2, 2, thing)

    def kinds(self, many, pairs):
        """All three kinds that have pairs, to be made with right last arguments."""
        return ((spins, many, pairs, 1, 2), (sets_apart, many, pairs, 1), (colourings, many, pairs, 2))

    def test_no_pairs(self):
        for pairs in (
                None, 0, "", "01", [], [(0, 1)], ([0, 1],), (0, 1), ((0, 1), (0, 1)), ((1, 0),), ((0, 1), (2, 1)),
                ((0, 2), (0, 1)), ((1, 2), (0, 1)), ((0, 0),), ((0, 3),), ((-1, 0),), ((0, 1, 2),), ((0,),),
                ((False, 1),), ((0, True),), (("0", "1"),), ((0, None),), {(0, 1): 0}, (((0,), (1,)),)):
            for function, *arguments in self.kinds(3, pairs):
                self.assertRaises(NoPairs, function, *arguments)
        for pairs in odd_things() + list(with_one_changed(((0, 1), (1, 2)), odd_things())):
            right = type(pairs) is tuple and all(
                type(pair) is tuple and len(pair) == 2 and all(type(place) is int for place in pair)
                and 0 <= pair[0] < pair[1] < 3 for pair in pairs) and list(pairs) == sorted(set(pairs))
            for function, *arguments in self.kinds(3, pairs):
                if right:
                    self.assertIsInstance(function(*arguments), Model)
                else:
                    self.assertRaises(NoPairs, function, *arguments)

    def test_bad_models(self):
        for many in odd_things() + [0, 13, "2", (2,)]:
            for pairs in ((), ((0, 1),), None):
                for function, *arguments in self.kinds(many, pairs):
                    self.assertEqual(part_by(function, *arguments), "many")
        crowd = tuple((0, other) for other in range(1, 6))
        for function, *arguments in self.kinds(6, crowd):
            self.assertEqual(part_by(function, *arguments), "crowded")
        for function, *arguments in self.kinds(6, crowd[:4]):
            self.assertIsInstance(function(*arguments), Model)
        pairs = ((0, 1), (1, 2))
        for thing in odd_things() + [1001, "1", (1,)]:
            self.assertEqual(part_by(spins, 3, pairs, thing, 1), 0)
            self.assertEqual(part_by(spins, 3, pairs, 1, thing), 0)
            self.assertEqual(part_by(spins, 6, crowd, 1, thing), 0)
            self.assertEqual(part_by(sets_apart, 3, pairs, thing), "weights")
            self.assertEqual(part_by(sets_apart, 6, crowd, thing), "weights")
            # Without pairs there are no tables in which they would stand.
            self.assertEqual(spins(3, (), thing, thing), spins(3, (), 1, 1))
        for thing in odd_things() + [0, 5, "2", (2,)]:
            self.assertEqual(part_by(colourings, 3, pairs, thing), "levels")
            self.assertEqual(part_by(colourings, 6, crowd, thing), "levels")

    def test_the_first_argument_that_is_wrong_is_told(self):
        for function in (spins, sets_apart, colourings):
            last = (1001, 1001) if function is spins else (1001,)
            self.assertEqual(part_by(function, 13, None, *last), "many")
            self.assertRaises(NoPairs, function, 3, None, *last)
            self.assertRaises(NoPairs, function, 3, ((1, 0),), *last)


if __name__ == "__main__":
    unittest.main()
