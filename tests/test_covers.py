"""Promise 9.3, with 0.2 to 0.5: covers, and pictures drawn by them."""

import random
import unittest
from itertools import combinations, product

from asifforever.covers import covered, drawn_by_cover
from asifforever.errors import NoCoins, NoCover, NoPlan, NoRenewal, NothingFits
from asifforever.models import Model, colourings, sets_apart, spins, stacks
from asifforever.renewals import renewed
from asifforever.rising import drawn_picture, flips_for
from byhand import (
    any_coins, any_rising, are_coins_by_hand, covered_by_hand, drawn_by_cover_by_hand, is_coin_by_hand,
    shares_to_try)
from things import MODEL, any_model, any_models, fitting_by_hand, odd_things, pair, with_one_changed

EVEN = sets_apart(2, ((0, 1),), 1)
TRIANGLE = sets_apart(3, ((0, 1), (0, 2), (1, 2)), 2)
BOTH = ((0, 1), (0, 1))
ZERO = (0, 1)
HALF = (1, 2)
SIZES = (0, 1, 2, 3, 4, 5, 7, 8, 9)
NOTHING = (
    colourings(2, ((0, 1),), 1), colourings(3, ((0, 1), (0, 2), (1, 2)), 2), Model(1, 2, ((0, 0),), ()),
    Model(12, 4, ((1,) * 4,) * 11 + ((0,) * 4,), ()))


def lots(levels):
    """All lots of values, not empty."""
    return [lot for many in range(1, levels + 1) for lot in combinations(range(levels), many)]


def whole(model):
    """The cover of all values."""
    return (tuple(range(model.levels)),) * model.many


def is_cover_by_hand(model, thing):
    """Whether a thing is a cover."""
    return type(thing) is tuple and len(thing) == model.many and all(
        type(lot) is tuple and all(type(value) is int for value in lot) and lot in lots(model.levels)
        for lot in thing)


def is_within(cover, picture):
    """Whether a picture is within a cover."""
    return all(value in lot for value, lot in zip(picture, cover))


class CoveredTest(unittest.TestCase):
    def test_told_ones(self):
        self.assertEqual(covered(EVEN, BOTH, (0, ZERO)), ((0,), (0, 1)))
        self.assertEqual(covered(EVEN, BOTH, (0, HALF)), BOTH)
        self.assertEqual(covered(EVEN, ((0, 1), (0,)), (0, HALF)), ((1,), (0,)))
        self.assertEqual(covered(EVEN, ((0,), (1,)), (0, HALF)), ((0,), (1,)))
        self.assertEqual(covered(EVEN, ((0,), (1,)), (1, (99, 100))), ((0,), (1,)))
        # A place may be led to values that are not in its lot of now.
        self.assertEqual(covered(EVEN, ((0,), (0,)), (1, HALF)), ((0,), (1,)))

    def test_all_covers_of_small_models(self):
        chance = random.Random(231)
        models = [model for model in any_models(232, 60) if model.many < 4 and model.levels < 4] + [MODEL, EVEN]
        for model in models:
            covers = list(product(lots(model.levels), repeat=model.many))
            for cover in chance.sample(covers, min(40, len(covers))):
                for place in range(model.many):
                    for u in chance.sample(shares_to_try(model, place), 3):
                        coin = (place, pair(u))
                        self.assertEqual(covered(model, cover, coin), covered_by_hand(model, cover, coin))

    def test_a_place_of_four_ties(self):
        chance = random.Random(233)
        for _ in range(4):
            model = any_model(chance, 5, 4, 10, (0, 1, 1, 2, 5))
            for _ in range(6):
                cover = tuple(chance.choice(lots(4)) for _ in range(5))
                coin = any_coins(chance, model, 1)[0]
                self.assertEqual(covered(model, cover, coin), covered_by_hand(model, cover, coin))
        model = Model(12, 2, ((1, 1),) * 12, ())
        self.assertEqual(covered(model, ((1,),) * 12, (11, ZERO)), ((1,),) * 11 + ((0,),))

    def test_a_cover_within_which_nothing_fits(self):
        model = Model(2, 3, ((1, 1, 1), (1, 1, 1)), ((0, 1, ((0, 1, 1), (0, 1, 1), (0, 1, 1))),))
        for share in (ZERO, HALF, (2, 3)):
            for lot in lots(3):
                self.assertEqual(covered(model, (lot, (0,)), (0, share)), (lot, (0,)))
        self.assertEqual(covered(model, ((2,), (0, 1)), (0, ZERO)), ((0,), (0, 1)))
        self.assertEqual(covered(colourings(2, ((0, 1),), 1), ((0,), (0,)), (1, ZERO)), ((0,), (0,)))

    def test_no_cover(self):
        for cover in (
                (), ((0,),), ((0,),) * 3, [(0,), (0,)], ([0], (0,)), ((0,), ()), ((), (0,)), ((1, 0), (0,)),
                ((0, 0), (0,)), ((0, 2), (0,)), ((-1,), (0,)), ((0,), (True,)), ((False, 1), (0,)), ((0,), None),
                ((0,), 0), (0, 0), ((0,), "0"), ((0,), ((0,),)), None, "", 0, {0: (0,), 1: (0,)}, ((0,), range(1)),
                ((0, None), (0,)), ((0,), {0: 0})):
            self.assertRaises(NoCover, covered, EVEN, cover, (0, ZERO))
            self.assertRaises(NoCover, covered, EVEN, cover, None)
        for cover in odd_things() + list(with_one_changed(((0, 1), (0,)), odd_things())):
            if not is_cover_by_hand(EVEN, cover):
                self.assertRaises(NoCover, covered, EVEN, cover, (0, ZERO))
                self.assertRaises(NoCover, covered, EVEN, cover, cover)

    def test_no_renewal(self):
        for coin in (
                (), (0,), (0, ZERO, 0), [0, ZERO], (2, ZERO), (-1, ZERO), (True, ZERO), (0, (1, 1)), (0, (3, 2)),
                (0, (-1, 2)), (0, (2, 4)), (0, [0, 1]), (0, 0), 0, None, "0@0", {0: ZERO}, ((0, ZERO),)):
            self.assertRaises(NoRenewal, covered, EVEN, BOTH, coin)
        for coin in odd_things() + list(with_one_changed((0, HALF), odd_things())):
            if not is_coin_by_hand(EVEN, coin):
                self.assertRaises(NoRenewal, covered, EVEN, BOTH, coin)

    def test_the_thirteenth_step(self):
        chance = random.Random(234)
        tried = 0
        for model in [model for model in any_models(235, 80) if model.many < 5]:
            pictures = fitting_by_hand(model)
            for _ in range(10):
                cover = tuple(chance.choice(lots(model.levels)) for _ in range(model.many))
                coin = any_coins(chance, model, 1)[0]
                behind = covered(model, cover, coin)
                for picture in pictures:
                    if is_within(cover, picture):
                        self.assertTrue(is_within(behind, renewed(model, picture, coin)))
                        tried += 1
        self.assertGreater(tried, 200)


class DrawnByCoverTest(unittest.TestCase):
    def test_told_ones(self):
        coins = ((0, ZERO), (1, ZERO))
        self.assertEqual(drawn_by_cover(EVEN, (), "one"), ("undecided", BOTH, 0))
        self.assertEqual(drawn_by_cover(EVEN, coins, "one"), ("told", (0, 0), 2))
        self.assertEqual(drawn_by_cover(EVEN, coins[:1], "one"), ("undecided", ((0,), (0, 1)), 1))
        self.assertEqual(drawn_by_cover(EVEN, coins + coins[:1], "double"), ("told", (0, 0), 2))
        self.assertEqual(drawn_by_cover(Model(2, 1, ((3,), (1,)), ()), (), "double"), ("told", (0, 0), 0))
        # It need not rise.
        self.assertIsNone(flips_for(TRIANGLE))
        coins = tuple((place, ZERO) for place in range(3))
        self.assertEqual(drawn_by_cover(TRIANGLE, coins, "one"), ("told", (0, 0, 0), 3))
        self.assertEqual(drawn_by_cover(TRIANGLE, ((1, HALF),) + coins, "one"), ("told", (0, 1, 0), 4))
        self.assertEqual(drawn_by_cover(TRIANGLE, ((1, HALF),) + coins[:2], "double"), (
            "undecided", ((0,), (0, 1), (0, 1)), 2))

    def test_against_the_words(self):
        chance = random.Random(236)
        counted = {}
        models = [model for model in any_models(237, 70) if model.many < 5 and fitting_by_hand(model)]
        models += [any_rising(chance, 3, levels, 3)[0] for levels in (1, 2, 3) for _ in range(5)]
        for model in models:
            for many in SIZES + (chance.randint(10, 20),):
                coins = any_coins(chance, model, many)
                for plan in ("one", "double"):
                    found = drawn_by_cover(model, coins, plan)
                    self.assertEqual(found, drawn_by_cover_by_hand(model, coins, plan))
                    counted[found[0], plan] = counted.get((found[0], plan), 0) + 1
        self.assertEqual(len(counted), 4)
        self.assertGreater(min(counted.values()), 50)

    def test_what_is_told_is_what_all_pictures_are_led_to(self):
        chance = random.Random(238)
        told = 0
        for model in [model for model in any_models(239, 60) if fitting_by_hand(model)]:
            coins = any_coins(chance, model, 12)
            word, picture, many = drawn_by_cover(model, coins, "one")
            for start in fitting_by_hand(model)[:60]:
                for coin in coins[:many][::-1]:
                    start = renewed(model, start, coin)
                if word == "told":
                    self.assertEqual(start, picture)
                    told += 1
                else:
                    self.assertTrue(is_within(picture, start))
        self.assertGreater(told, 100)

    def test_where_the_model_rises_ends_tell_no_less(self):
        chance = random.Random(240)
        for _ in range(25):
            model, flips = any_rising(chance, chance.randint(2, 4), 2, 4)
            coins = any_coins(chance, model, 20)
            by_ends = drawn_picture(model, flips, coins, "one")
            by_cover = drawn_by_cover(model, coins, "one")
            if by_cover[0] == "told":
                self.assertEqual(by_ends[:2], by_cover[:2])
                self.assertLessEqual(by_ends[2], by_cover[2])

    def test_400_coins(self):
        chance = random.Random(241)
        still = (1, HALF)
        for many in (1, 3, 4, 127, 128, 255, 256, 399):
            coins = (still,) * many + ((0, ZERO),)
            self.assertEqual(drawn_by_cover(EVEN, coins, "one"), ("told", (0, 1), many + 1))
            look = max([2 ** k for k in range(9) if 2 ** k <= many + 1])
            found = ("told", (0, 1), look) if look == many + 1 else ("undecided", ((0, 1), (0, 1)), look)
            self.assertEqual(drawn_by_cover(EVEN, coins, "double"), found)
        for model in (colourings(12, tuple((k, k + 1) for k in range(11)), 4), stacks(3, 4, 1), spins(2, (), 1, 1),
                      any_model(chance, 12, 3, 24, (1, 1, 2, 5))):
            coins = any_coins(chance, model, 400)
            for plan in ("one", "double"):
                word, thing, many = drawn_by_cover(model, coins, plan)
                cover = whole(model)
                for coin in coins[:many][::-1]:
                    cover = covered(model, cover, coin)
                if word == "told":
                    self.assertEqual(tuple((value,) for value in thing), cover)
                    if plan == "one":
                        self.assertEqual(drawn_by_cover(model, coins[:many - 1], "one")[0], "undecided")
                else:
                    self.assertEqual((thing, many), (cover, 400 if plan == "one" else 256))

    def test_nothing_fits(self):
        for model in NOTHING:
            for coins in ((), ((0, ZERO),), None, ((12, ZERO),)):
                for plan in ("one", "double", None):
                    self.assertRaises(NothingFits, drawn_by_cover, model, coins, plan)

    def test_no_coins(self):
        for coins in (
                None, [], [(0, ZERO)], "", 0, ((0, ZERO),) * 401, (0, ZERO), ((2, ZERO),), ((0, (1, 1)),),
                ([0, ZERO],), ((0, ZERO), None), ((True, ZERO),)):
            self.assertRaises(NoCoins, drawn_by_cover, EVEN, coins, "one")
            self.assertRaises(NoCoins, drawn_by_cover, EVEN, coins, None)
        for coins in odd_things() + list(with_one_changed(((0, HALF), (1, ZERO)), odd_things())):
            if not are_coins_by_hand(EVEN, coins):
                self.assertRaises(NoCoins, drawn_by_cover, EVEN, coins, "one")

    def test_no_plan(self):
        for plan in [None, "", "two", "One", "one ", 1, ("one",), ["one"], b"one"] + odd_things():
            self.assertRaises(NoPlan, drawn_by_cover, EVEN, (), plan)
            self.assertRaises(NoPlan, drawn_by_cover, EVEN, ((0, ZERO),) * 400, plan)

    def test_arguments_stay_as_they_are(self):
        weights, ties = MODEL.weights, MODEL.ties
        cover = ((0, 1), (0, 2))
        self.assertEqual(covered(MODEL, cover, (0, (9, 10))), ((1, 2), (0, 2)))
        drawn_by_cover(MODEL, ((0, ZERO),), "one")
        self.assertEqual((MODEL.weights, MODEL.ties, cover), (weights, ties, ((0, 1), (0, 2))))


if __name__ == "__main__":
    unittest.main()
