"""Promises 8.2 and 8.3, with 0.2 to 0.5: local shares, renewals, cells, and the System of a model."""

import random
import unittest
from fractions import Fraction

from asifforever.errors import NoPicture, NoPlace, NoRenewal, NothingFits, TooMany
from asifforever.models import Model, colourings, fitting, sets_apart, spins, stacks
from asifforever.renewals import cells, local_shares, renewed, system_of
from asifforever.steady import is_steady, steady_spreads
from asifforever.systems import System
from byhand import added_by_hand, cells_by_hand, local_by_hand, renewed_by_hand, shares_to_try
from things import (
    MODEL, all_pictures, any_model, any_models, fitting_by_hand, odd_things, pair, weight_by_hand, with_one_changed,
    worth)

EVEN = sets_apart(2, ((0, 1),), 1)
ALONE = Model(1, 3, ((1, 0, 3),), ())
ZERO = (0, 1)
WHOLE = (1, 1)


class LocalSharesTest(unittest.TestCase):
    def test_told_ones(self):
        self.assertEqual(local_shares(MODEL, (0, 0), 0), ((1, 24), (1, 12), (7, 8)))
        self.assertEqual(local_shares(MODEL, (1, 2), 1), ((1, 4), ZERO, (3, 4)))
        self.assertEqual(local_shares(MODEL, (2, 0), 1), (WHOLE, ZERO, ZERO))
        self.assertEqual(local_shares(EVEN, (0, 0), 0), ((1, 2), (1, 2)))
        self.assertEqual(local_shares(EVEN, (0, 1), 0), (WHOLE, ZERO))
        self.assertEqual(local_shares(ALONE, (2,), 0), ((1, 4), ZERO, (3, 4)))

    def test_against_the_words(self):
        for model in any_models(121, 120):
            for picture in fitting_by_hand(model):
                for place in range(model.many):
                    parts = local_by_hand(model, dict(enumerate(picture)), place)
                    found = tuple(pair(Fraction(part, sum(parts))) for part in parts)
                    self.assertEqual(local_shares(model, picture, place), found)

    def test_no_pictures(self):
        for picture in (
                (), (0,), (0, 0, 0), (0, 3), (-1, 0), [0, 0], (0, True), (False, 0), "00", 0, None, {0: 0, 1: 0},
                # These do not fit.
                (0, 1), (1, 1), (2, 1), (2, 2)):
            for place in (0, 1, 2, None):
                self.assertRaises(NoPicture, local_shares, MODEL, picture, place)
            for renewal in ((0, ZERO), (2, ZERO), None):
                self.assertRaises(NoPicture, renewed, MODEL, picture, renewal)
        for picture in odd_things() + list(with_one_changed((1, 0), odd_things())):
            if not (isinstance(picture, tuple) and picture == (0, 2)):
                self.assertRaises(NoPicture, local_shares, MODEL, picture, 0)
                self.assertRaises(NoPicture, renewed, MODEL, picture, (0, ZERO))
                self.assertRaises(NoPicture, renewed, MODEL, picture, picture)

    def test_no_places(self):
        for place in odd_things() + [2, 3, 12, (0,), [0], "0"]:
            self.assertRaises(NoPlace, local_shares, MODEL, (0, 0), place)
            self.assertRaises(NoPlace, cells, MODEL, place)
        self.assertRaises(NoPlace, local_shares, ALONE, (0,), 1)
        self.assertRaises(NoPlace, cells, ALONE, 1)


class RenewedTest(unittest.TestCase):
    def test_told_ones(self):
        for share, value in (
                (ZERO, 0), ((1, 24), 1), ((1, 25), 0), ((1, 8), 2), ((999999999998, 999999999999), 2), ((3, 25), 1)):
            self.assertEqual(renewed(MODEL, (0, 0), (0, share)), (value, 0))
        # Values without a share are passed over, also at the stretch's beginning.
        self.assertEqual(renewed(MODEL, (1, 2), (1, (1, 4))), (1, 2))
        self.assertEqual(renewed(MODEL, (1, 2), (1, (1, 5))), (1, 0))
        self.assertEqual(renewed(Model(1, 3, ((0, 2, 0),), ()), (1,), (0, ZERO)), (1,))
        self.assertEqual(renewed(Model(1, 3, ((0, 2, 0),), ()), (1,), (0, (99, 100))), (1,))
        self.assertEqual(renewed(EVEN, (0, 0), (1, (1, 2))), (0, 1))
        self.assertEqual(renewed(EVEN, (1, 0), (1, (1, 2))), (1, 0))

    def test_against_the_words(self):
        for model in any_models(122, 80):
            for picture in fitting_by_hand(model)[:40]:
                for place in range(model.many):
                    for u in shares_to_try(model, place)[:12]:
                        found = renewed(model, picture, (place, pair(u)))
                        self.assertEqual(found, renewed_by_hand(model, picture, place, u))
                        # The ninth step: what fits is led to what fits.
                        self.assertGreater(weight_by_hand(model, found), 0)

    def test_no_renewals(self):
        for renewal in (
                (), (0,), (0, ZERO, 0), [0, ZERO], (0, [0, 1]), (2, ZERO), (-1, ZERO), (False, ZERO), (0, WHOLE),
                (0, (3, 2)), (0, (-1, 2)), (0, (2, 4)), (0, (0, 2)), (0, (1, 0)), (0, (1,)), (0, 0), (0, (True, 2)),
                (0, (False, 1)), (0, (1, -2)), (0, "0"), ("0", ZERO), (ZERO, 0), 0, None, "0@0", {0: ZERO}, (0, None),
                (0, (1, 2, 3)), (0, (999999999999, 999999999998))):
            self.assertRaises(NoRenewal, renewed, MODEL, (0, 0), renewal)
        for renewal in odd_things() + list(with_one_changed((0, (1, 2)), odd_things())):
            if not (isinstance(renewal, tuple) and len(renewal) == 2 and renewal[1] in (
                    (1, 10 ** 12 - 1), (1, 10 ** 5000))):
                self.assertRaises(NoRenewal, renewed, MODEL, (0, 0), renewal)


class CellsTest(unittest.TestCase):
    def test_e05(self):
        self.assertEqual(cells(EVEN, 0), ((ZERO, (1, 2)), ((1, 2), WHOLE)))

    def test_told_ones(self):
        self.assertEqual(cells(ALONE, 0), ((ZERO, (1, 4)), ((1, 4), WHOLE)))
        # By 0, 1, 2 at the other place: 1, 2, 21 of 24; 1, 10, 3 of 14; 1, 4, 0 of 5.
        self.assertEqual(cells(MODEL, 0), (
            (ZERO, (1, 24)), ((1, 24), (1, 14)), ((1, 14), (1, 8)), ((1, 8), (1, 5)), ((1, 5), (11, 14)),
            ((11, 14), WHOLE)))
        self.assertEqual(cells(MODEL, 1), ((ZERO, (1, 4)), ((1, 4), (2, 5)), ((2, 5), WHOLE)))

    def test_one_stretch(self):
        self.assertEqual(cells(Model(1, 1, ((5,),), ()), 0), ((ZERO, WHOLE),))
        self.assertEqual(cells(Model(1, 2, ((0, 5),), ()), 0), ((ZERO, WHOLE),))
        self.assertEqual(cells(Model(1, 2, ((0, 0),), ()), 0), ((ZERO, WHOLE),))
        none = ((0, 0), (0, 0))
        self.assertEqual(cells(Model(2, 2, ((1, 1),) * 2, ((0, 1, none),)), 1), ((ZERO, WHOLE),))

    def test_values_of_tied_places_that_leave_nothing_are_left_out(self):
        # By 0 at place 1 nothing is left; by 1 shares are 1/4 and 3/4.
        model = Model(2, 2, ((1, 3), (1, 1)), ((0, 1, ((0, 1), (0, 1))),))
        self.assertEqual(cells(model, 0), ((ZERO, (1, 4)), ((1, 4), WHOLE)))

    def test_values_that_no_picture_has_are_not_left_out(self):
        # Place 1 never has value 1, for it weighs nothing; the cells know of it all the same.
        model = Model(2, 2, ((1, 1), (1, 0)), ((0, 1, ((1, 1), (1, 4))),))
        self.assertEqual(cells(model, 0), ((ZERO, (1, 5)), ((1, 5), (1, 2)), ((1, 2), WHOLE)))

    def test_against_the_words(self):
        chance = random.Random(123)
        models = any_models(124, 150) + [any_model(chance, 6, 4, 12, (0, 1, 7, 1000)) for _ in range(5)]
        models += [stacks(3, 4, 3), colourings(12, ((0, 1), (0, 2), (0, 3), (0, 4)), 4)]
        for model in models:
            for place in range(model.many):
                found = cells(model, place)
                self.assertEqual(found, cells_by_hand(model, place))
                self.assertEqual((found[0][0], found[-1][1]), (ZERO, WHOLE))

    def test_the_ninth_step(self):
        chance = random.Random(125)
        for model in any_models(126, 60):
            for picture in fitting_by_hand(model)[:20]:
                for place in range(model.many):
                    for low, high in cells(model, place)[:10]:
                        size = worth(high) - worth(low)
                        within = [Fraction(chance.randrange(10 ** 6), 10 ** 6), 1 - Fraction(1, 10 ** 9)]
                        found = {renewed(model, picture, (place, pair(worth(low) + size * part))) for part in within}
                        self.assertEqual(found, {renewed(model, picture, (place, low))})


def system_by_hand(model):
    """The System of a model by the words of 8.3."""
    pictures = fitting_by_hand(model)
    moves = []
    for place in range(model.many):
        for low, high in cells_by_hand(model, place):
            leads = tuple(
                pictures.index(renewed_by_hand(model, picture, place, worth(low))) for picture in pictures)
            moves.append((pair((worth(high) - worth(low)) / model.many), leads))
    return pictures, moves


class SystemOfTest(unittest.TestCase):
    def test_told_ones(self):
        quarter = (1, 4)
        self.assertEqual(system_of(EVEN), System(3, (
            (quarter, (0, 1, 0)), (quarter, (2, 1, 2)), (quarter, (0, 0, 2)), (quarter, (1, 1, 2)))))
        self.assertEqual(system_of(ALONE), System(2, ((quarter, (0, 0)), ((3, 4), (1, 1)))))
        self.assertEqual(system_of(Model(2, 1, ((1,), (9,)), ())), System(1, (((1, 2), (0,)), ((1, 2), (0,)))))

    def test_against_the_words(self):
        counted = {}
        chance = random.Random(129)
        models = any_models(127, 400) + [spins(3, ((0, 1), (1, 2)), 5, 2), stacks(2, 2, 1), stacks(1, 3, 2)]
        models += [any_model(chance, 3, 3, 3, (0, 0, 1, 2, 5, 7)) for _ in range(60)]
        models += [busy(more, (1, 1, 1, 0)) for more in range(7)]
        models += [busy(0, tuple(chance.sample((0, 1, chance.randint(1, 9), 100), 4))) for _ in range(30)]
        for model in models:
            pictures, moves = system_by_hand(model) if len(fitting_by_hand(model)) < 60 else ([None] * 60, [])
            if not pictures:
                kind = NothingFits
                self.assertRaises(NothingFits, system_of, model)
            elif len(pictures) > 12 or len(moves) > 24:
                kind = len(pictures) > 12
                with self.assertRaises(TooMany) as found:
                    system_of(model)
                self.assertEqual(found.exception.most, 12 if len(pictures) > 12 else 24)
            else:
                kind = None
                system = system_of(model)
                self.assertIsInstance(system, System)
                self.assertEqual(system, System(len(pictures), tuple(moves)))
            counted[kind] = counted.get(kind, 0) + 1
        self.assertGreater(min(counted.values()), 5)
        self.assertEqual(len(counted), 4)

    def test_the_tenth_step(self):
        tried = 0
        for model in any_models(128, 300) + [stacks(2, 2, 1), spins(2, ((0, 1),), 1000, 1)]:
            pictures = fitting_by_hand(model)
            if 0 < len(pictures) <= 12 and sum(len(cells(model, place)) for place in range(model.many)) <= 24:
                weights = [weight_by_hand(model, picture) for picture in pictures]
                spread = tuple(pair(Fraction(part, sum(weights))) for part in weights)
                self.assertIs(is_steady(system_of(model), spread), True)
                tried += 1
        self.assertGreater(tried, 50)
        self.assertEqual(steady_spreads(system_of(EVEN)), [((1, 3),) * 3])

    def test_nothing_fits(self):
        for model in (
                Model(1, 2, ((0, 0),), ()), colourings(2, ((0, 1),), 1), Model(12, 4, ((0,) * 4,) * 12, ()),
                Model(12, 4, ((1,) * 4,) * 11 + ((0,) * 4,), ()),
                # Moves would be too many as well.
                Model(12, 4, ((1, 2, 3, 4),) * 11 + ((0,) * 4,), ())):
            self.assertRaises(NothingFits, system_of, model)

    def assert_too_many(self, most, model):
        with self.assertRaises(TooMany) as found:
            system_of(model)
        self.assertEqual(found.exception.most, most)

    def test_too_many(self):
        twelve = Model(3, 3, ((1, 1, 1), (1, 1, 0), (1, 0, 1)), ())
        self.assertEqual(len(fitting(twelve)), 12)
        self.assertEqual(system_of(twelve).many, 12)
        self.assert_too_many(12, Model(2, 4, ((1,) * 4, (1,) * 4), ()))
        self.assert_too_many(12, Model(12, 4, ((1, 2, 3, 4),) * 12, ()))
        thirteen = Model(2, 4, ((1,) * 4,) * 2, ((0, 1, ((1,) * 4, (1,) * 4, (1,) * 4, (1, 0, 0, 0))),))
        self.assertEqual(len(fitting(thirteen)), 13)
        self.assert_too_many(12, thirteen)
        self.assert_too_many(12, busy(3, (1, 1, 1, 1)))

    def test_too_many_moves(self):
        # Two places with 9 and 13 cells, and each further one, of one value alone, has one.
        for more in (0, 1, 2):
            model = busy(more, (1, 1, 1, 0))
            self.assertEqual(len(fitting(model)), 12)
            self.assertEqual(sum(len(cells(model, place)) for place in range(2 + more)), 22 + more)
            self.assertEqual(len(system_of(model).moves), 22 + more)
        for more in (3, 4, 10):
            self.assert_too_many(24, busy(more, (1, 1, 1, 0)))
        # Values that no picture has make cells too, and so moves that lead no other way than others.
        model = Model(2, 2, ((1, 1), (1, 0)), ((0, 1, ((1, 1), (1, 4))),))
        self.assertEqual(system_of(model), System(2, (
            ((1, 10), (0, 0)), ((3, 20), (0, 0)), ((1, 4), (1, 1)), ((1, 2), (0, 1)))))


def busy(more, first):
    """A model of two places whose tie makes many cells, and of so many more places of one value alone."""
    table = ((1, 2, 3, 4), (1, 3, 1, 9), (2, 7, 1, 8), (5, 1, 1, 1))
    return Model(2 + more, 4, (first, (1,) * 4) + ((0, 1, 0, 0),) * more, ((0, 1, table),))


if __name__ == "__main__":
    unittest.main()
