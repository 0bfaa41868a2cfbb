"""Promise 9.1, with 0.2 to 0.5: flips, what is below, what rises, and both ends."""

import random
import unittest
from itertools import combinations, product

from asifforever.errors import NoEnds, NoFlips, NoPicture
from asifforever.models import Model, colourings, fitting, sets_apart, spins, stacks
from asifforever.renewals import renewed
from asifforever.rising import ends_of, flips_for, is_below, rises
from byhand import (
    any_rising, below_by_hand, ends_by_hand, flips_by_hand, rises_at_by_hand, rises_by_hand, shares_to_try,
    turned_about)
from things import MODEL, all_pictures, any_model, any_models, fitting_by_hand, odd_things, pair, with_one_changed

EVEN = sets_apart(2, ((0, 1),), 1)
RING = tuple((k, k + 1) for k in range(11)) + ((0, 11),)
RING = tuple(sorted(RING))
# Three places, any two of them apart: no flips turn all three ties.
TRIANGLE = sets_apart(3, ((0, 1), (0, 2), (1, 2)), 2)
NO_FLIPS = (
    (), (True,), (True, False, True), [True, False], (0, 1), (False, 0), (1, True), (None, False), ("", True), "+-",
    None, 0, True, {}, {0: True, 1: False}, ((True, False),), (True, (False,)), range(2))


def no_flips(thing):
    """Whether an odd thing is no flips of two places."""
    return not (type(thing) is tuple and [type(part) for part in thing] == [bool, bool])


def all_flips(many):
    """All flips, ascending."""
    return list(product((False, True), repeat=many))


def one_place(*tables):
    """A model of two values in which place 0 is tied to as many others as there are tables."""
    many = len(tables) + 1
    ties = tuple((0, at + 1, table) for at, table in enumerate(tables))
    return Model(many, 2, ((1, 1),) * many, ties)


class BelowTest(unittest.TestCase):
    def test_told_ones(self):
        model = stacks(1, 3, 3)
        none = (False,) * 3
        self.assertIs(is_below(model, none, (0, 1, 2), (0, 1, 2)), True)
        self.assertIs(is_below(model, none, (0, 1, 2), (3, 1, 2)), True)
        self.assertIs(is_below(model, none, (0, 1, 2), (3, 0, 3)), False)
        self.assertIs(is_below(model, (False, True, False), (0, 1, 2), (3, 0, 3)), True)
        self.assertIs(is_below(model, (True, True, True), (0, 1, 2), (3, 1, 2)), False)
        self.assertIs(is_below(model, (True, True, True), (3, 1, 2), (0, 1, 2)), True)
        # What does not fit is a picture, too.
        self.assertIs(is_below(EVEN, (False, False), (0, 0), (1, 1)), True)

    def test_against_the_words(self):
        for many, levels in ((1, 4), (2, 3), (3, 2), (1, 1), (2, 1)):
            model = Model(many, levels, ((1,) * levels,) * many, ())
            for flips in all_flips(many):
                for one in all_pictures(model):
                    for other in all_pictures(model):
                        found = is_below(model, flips, one, other)
                        self.assertIs(found, below_by_hand(flips, one, other))

    def test_no_flips(self):
        for flips in NO_FLIPS:
            for function, rest in ((is_below, ((0, 0), (1, 1))), (is_below, (None, None)), (rises, ()), (ends_of, ())):
                self.assertRaises(NoFlips, function, EVEN, flips, *rest)
        for flips in odd_things() + list(with_one_changed((True, False), odd_things())):
            if no_flips(flips):
                self.assertRaises(NoFlips, is_below, EVEN, flips, (0, 0), (1, 1))
                self.assertRaises(NoFlips, rises, EVEN, flips)
                self.assertRaises(NoFlips, ends_of, EVEN, flips)
        for function in (rises, ends_of):
            self.assertRaises(NoFlips, function, Model(12, 1, ((1,),) * 12, ()), (False,) * 11)
            self.assertRaises(NoFlips, function, Model(12, 1, ((1,),) * 12, ()), (False,) * 13)

    def test_no_pictures(self):
        for picture in (
                (), (0,), (0, 0, 0), (0, 2), (-1, 0), [0, 0], (0, True), (False, 0), "00", 0, None, {0: 0, 1: 0},
                (0, None), ((0, 0),)):
            self.assertRaises(NoPicture, is_below, EVEN, (True, False), picture, (0, 0))
            self.assertRaises(NoPicture, is_below, EVEN, (True, False), (0, 0), picture)
            self.assertRaises(NoPicture, is_below, EVEN, (True, False), picture, picture)
        for picture in odd_things() + list(with_one_changed((1, 0), odd_things())):
            self.assertRaises(NoPicture, is_below, EVEN, (True, False), picture, (0, 0))
            self.assertRaises(NoPicture, is_below, EVEN, (True, False), (0, 0), picture)


class RisesTest(unittest.TestCase):
    def test_told_ones(self):
        self.assertEqual([rises(EVEN, flips) for flips in all_flips(2)], [False, True, True, False])
        alike = spins(2, ((0, 1),), 2, 1)
        self.assertEqual([rises(alike, flips) for flips in all_flips(2)], [True, False, False, True])
        even = spins(2, ((0, 1),), 3, 3)
        self.assertEqual([rises(even, flips) for flips in all_flips(2)], [True] * 4)
        self.assertEqual([rises(TRIANGLE, flips) for flips in all_flips(3)], [False] * 8)
        self.assertIs(rises(stacks(3, 4, 3), (False,) * 12), True)
        self.assertIs(rises(stacks(3, 4, 3), (False,) * 11 + (True,)), False)

    def test_against_the_words(self):
        counted = [0, 0]
        for model in [model for model in any_models(201, 160) if model.many < 5]:
            for flips in all_flips(model.many):
                found = rises(model, flips)
                self.assertIs(found, rises_by_hand(model, flips))
                counted[found] += 1
        self.assertGreater(min(counted), 100)

    def test_what_rises_however_its_places_are_turned(self):
        chance = random.Random(202)
        for _ in range(60):
            model, flips = any_rising(chance, chance.randint(1, 5), chance.randint(1, 3), 6)
            self.assertIs(rises(model, flips), True)
            self.assertIs(rises(model, tuple(not flip for flip in flips)), True)
            for other in chance.sample(all_flips(model.many), min(4, 2 ** model.many)):
                self.assertIs(rises(model, other), rises_by_hand(model, other))

    def test_a_place_of_four_ties(self):
        chance = random.Random(203)
        alike, unlike = ((2, 1), (1, 2)), ((1, 2), (2, 1))
        for kinds in product((alike, unlike), repeat=4):
            model = one_place(*kinds)
            fit = (False,) + tuple(kind == unlike for kind in kinds)
            self.assertEqual([flips for flips in all_flips(5) if rises(model, flips)],
                             sorted([fit, tuple(not flip for flip in fit)]))
        for _ in range(6):
            tables = [tuple(tuple(chance.choice((0, 1, 1, 2)) for _ in range(2)) for _ in range(2)) for _ in range(4)]
            for flips in all_flips(5):
                self.assertIs(rises(one_place(*tables), flips), rises_by_hand(one_place(*tables), flips))

    def test_tuples_that_no_picture_has_count(self):
        # Value 1 at place 1 weighs nothing, and yet it draws place 0 the wrong way.
        model = Model(2, 2, ((1, 1), (1, 0)), ((0, 1, ((1, 2), (1, 1))),))
        self.assertEqual(fitting(model), [(0, 0), (1, 0)])
        self.assertIs(rises(model, (False, False)), False)
        self.assertIs(rises(model, (False, True)), True)

    def test_tuples_that_leave_nothing_do_not_count(self):
        # By value 1 of place 1 nothing is left at place 0; by 0 and 2 its shares go up.
        table = ((4, 0, 1), (2, 0, 1), (1, 0, 1))
        model = Model(2, 3, ((1, 1, 1), (1, 1, 1)), ((0, 1, table),))
        self.assertIs(rises(model, (False, False)), True)
        self.assertIs(rises(model, (True, False)), False)
        # By value 1 alone nothing is left out: 0 and 2 are compared beyond it.
        table = ((1, 0, 4), (1, 0, 2), (1, 0, 1))
        model = Model(2, 3, ((1, 1, 1), (1, 1, 1)), ((0, 1, table),))
        self.assertIs(rises(model, (False, False)), False)
        self.assertIs(rises(model, (False, True)), True)
        nothing = Model(2, 2, ((0, 0), (0, 0)), ((0, 1, ((1, 2), (2, 1))),))
        self.assertEqual([rises(nothing, flips) for flips in all_flips(2)], [True] * 4)

    def test_each_value_is_asked(self):
        # Added shares by 0 and by 1: the first falls, the second does not.
        for table, found in (
                (((2, 1), (1, 2), (1, 1)), True), (((2, 1), (1, 3), (2, 1)), False), (((1, 1), (1, 1), (2, 1)), False),
                (((2, 1), (1, 1), (1, 2)), True), (((1, 2), (2, 1), (1, 1)), False)):
            wide = tuple(row + (0,) for row in table)
            model = Model(2, 3, ((1, 1, 1), (1, 1, 1)), ((0, 1, wide),))
            self.assertIs(rises_at_by_hand(model, (False, False), 0), found)
            self.assertIs(rises(model, (False, False)), rises_by_hand(model, (False, False)))

    def test_places_without_ties_and_models_of_one_level(self):
        for many in (1, 2, 3):
            for levels in (1, 2, 4):
                model = Model(many, levels, (tuple(range(1, levels + 1)),) * many, ())
                for flips in all_flips(many):
                    self.assertIs(rises(model, flips), True)
        model = Model(3, 1, ((4,), (0,), (2,)), ((0, 1, ((3,),)), (1, 2, ((0,),))))
        for flips in all_flips(3):
            self.assertIs(rises(model, flips), True)

    def test_models_of_twelve_places(self):
        chance = random.Random(204)
        for levels in (2, 3):
            for _ in range(2):
                model, flips = any_rising(chance, 12, levels, 24)
                self.assertIs(rises(model, flips), True)
                at = chance.choice([one for one, _, _ in model.ties])
                other = flips[:at] + (not flips[at],) + flips[at + 1:]
                self.assertIs(rises(model, other), rises_by_hand(model, other))
        model, flips = any_rising(chance, 12, 4, 60)
        self.assertGreater(len(model.ties), 20)
        self.assertIs(rises(model, flips), True)
        self.assertIs(rises(any_model(chance, 12, 4, 60, (1, 2, 3)), flips), False)


class FlipsForTest(unittest.TestCase):
    def test_e05(self):
        self.assertEqual(flips_for(EVEN), (False, True))

    def test_told_ones(self):
        self.assertIsNone(flips_for(TRIANGLE))
        self.assertEqual(flips_for(stacks(2, 2, 2)), (False,) * 4)
        self.assertEqual(flips_for(spins(3, ((0, 2),), 1, 2)), (False, False, True))
        self.assertEqual(flips_for(spins(3, ((0, 1), (0, 2)), 1, 2)), (False, True, True))
        self.assertEqual(flips_for(Model(1, 1, ((1,),), ())), (False,))
        self.assertEqual(flips_for(Model(2, 4, ((1, 0, 0, 1),) * 2, ())), (False, False))
        # Two values in colours that differ: only unlike ends fit.
        self.assertEqual(flips_for(colourings(2, ((0, 1),), 2)), (False, True))
        # By flips both ends must fit, and neither pair of them does.
        self.assertIsNone(flips_for(Model(1, 2, ((0, 1),), ())))
        self.assertIsNone(flips_for(Model(1, 2, ((1, 0),), ())))
        self.assertIsNone(flips_for(Model(2, 2, ((0, 0), (1, 1)), ())))

    def test_flips_by_which_it_rises_but_an_end_does_not_fit(self):
        # Just one picture fits, and it is one end at most.
        model = Model(2, 2, ((1, 1), (1, 1)), ((0, 1, ((0, 1), (0, 0))),))
        self.assertEqual([rises(model, flips) for flips in all_flips(2)], [True] * 4)
        self.assertIsNone(flips_for(model))
        model = Model(2, 2, ((1, 1), (1, 1)), ((0, 1, ((0, 1), (1, 0))),))
        self.assertEqual(flips_for(model), (False, True))
        free = Model(2, 2, ((1, 1), (1, 1)), ((0, 1, ((1, 1), (1, 1))),))
        self.assertEqual(flips_for(free), (False, False))

    def test_against_all_flips(self):
        counted = {}
        chance = random.Random(205)
        models = [model for model in any_models(206, 120) if model.many < 5]
        models += [any_rising(chance, chance.randint(1, 4), chance.randint(1, 3), 6)[0] for _ in range(60)]
        for model in models:
            found = flips_for(model)
            self.assertEqual(found, flips_by_hand(model))
            counted[found] = counted.get(found, 0) + 1
            if found is not None:
                self.assertEqual(type(found), tuple)
                self.assertEqual({type(flip) for flip in found}, {bool})
        self.assertGreater(counted[None], 10)
        self.assertGreater(len(counted), 10)

    def test_models_of_twelve_places(self):
        chance = random.Random(207)
        for levels in (2, 3, 4):
            model, flips = any_rising(chance, 12, levels, 24)
            found = flips_for(model)
            self.assertLessEqual(found, flips)
            self.assertIs(rises(model, found), True)
        self.assertEqual(flips_for(sets_apart(12, RING, 3)), (False, True) * 6)
        self.assertEqual(flips_for(stacks(3, 4, 3)), (False,) * 12)
        self.assertIsNone(flips_for(colourings(12, RING, 3)))
        eleven = tuple(sorted([(k, k + 1) for k in range(10)] + [(0, 10)]))
        self.assertIsNone(flips_for(sets_apart(12, eleven, 3)))
        self.assertIsNone(flips_for(Model(12, 4, ((0, 1, 1, 1),) * 12, ())))


class EndsTest(unittest.TestCase):
    def test_told_ones(self):
        self.assertEqual(ends_of(EVEN, (False, True)), ((0, 1), (1, 0)))
        self.assertEqual(ends_of(EVEN, (True, False)), ((1, 0), (0, 1)))
        model = Model(3, 4, ((1,) * 4,) * 3, ())
        self.assertEqual(ends_of(model, (False, True, True)), ((0, 3, 3), (3, 0, 0)))
        # Whether it rises is not asked.
        self.assertEqual(ends_of(spins(2, ((0, 1),), 1, 2), (False, False)), ((0, 0), (1, 1)))
        self.assertEqual(ends_of(Model(2, 1, ((1,), (1,)), ()), (True, False)), ((0, 0), (0, 0)))

    def test_against_the_words(self):
        counted = [0, 0]
        for model in any_models(208, 120):
            for flips in all_flips(model.many):
                both = ends_by_hand(model, flips)
                counted[both is None] += 1
                if both is None:
                    self.assertRaises(NoEnds, ends_of, model, flips)
                else:
                    self.assertEqual(ends_of(model, flips), both)
        self.assertGreater(min(counted), 100)

    def test_one_end_that_does_not_fit(self):
        for row in ((0, 1), (1, 0), (0, 0)):
            for flips in ((False,), (True,)):
                self.assertRaises(NoEnds, ends_of, Model(1, 2, (row,), ()), flips)
        self.assertRaises(NoEnds, ends_of, EVEN, (False, False))
        self.assertRaises(NoEnds, ends_of, EVEN, (True, True))

    def test_two_wrong_at_once(self):
        self.assertRaises(NoFlips, ends_of, Model(1, 2, ((0, 0),), ()), (0,))
        self.assertRaises(NoFlips, is_below, EVEN, (0, 0), (0, 0), None)


class EleventhStepTest(unittest.TestCase):
    def test_renewals_keep_what_is_below(self):
        chance = random.Random(209)
        models = [any_rising(chance, chance.randint(2, 4), chance.randint(2, 3), 5) for _ in range(25)]
        for model, flips in models:
            low, high = ends_of(model, flips)
            pictures = fitting_by_hand(model)
            for place in range(model.many):
                for u in chance.sample(shares_to_try(model, place), 4):
                    led = {picture: renewed(model, picture, (place, pair(u))) for picture in pictures}
                    pairs = list(combinations(pictures, 2)) + [(low, high)]
                    for one, other in chance.sample(pairs, min(60, len(pairs))):
                        for below, above in ((one, other), (other, one)):
                            if is_below(model, flips, below, above):
                                self.assertTrue(is_below(model, flips, led[below], led[above]))
                    for picture in pictures:
                        self.assertTrue(is_below(model, flips, led[low], led[picture]))
                        self.assertTrue(is_below(model, flips, led[picture], led[high]))

    def test_arguments_stay_as_they_are(self):
        model = turned_about(MODEL, (False, True))
        self.assertEqual(turned_about(model, (False, True)), MODEL)
        weights, ties = MODEL.weights, MODEL.ties
        rises(MODEL, (False, True))
        flips_for(MODEL)
        self.assertEqual((MODEL.weights, MODEL.ties), (weights, ties))


if __name__ == "__main__":
    unittest.main()
