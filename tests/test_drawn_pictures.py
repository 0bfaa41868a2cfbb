"""Promise 9.2, with 0.2 to 0.5: pictures drawn by leading both ends, and the judge of a drawn one."""

import random
import unittest
from fractions import Fraction
from itertools import product

from asifforever.errors import NoCoins, NoEnds, NoFlips, NoPlan, NotRising
from asifforever.merging import told_shares, undecided
from asifforever.models import Model, colourings, fitting, sets_apart, spins, stacks
from asifforever.renewals import renewed, system_of
from asifforever.rising import drawn_picture, ends_of, flips_for, is_drawn_picture
from byhand import (
    any_coins, any_rising, are_coins_by_hand, cells_by_hand, drawn_by_hand, drawn_picture_by_hand, ends_by_hand,
    pair_led_by_hand)
from things import MODEL, fitting_by_hand, odd_things, pair, weight_by_hand, with_one_changed, worth

EVEN = sets_apart(2, ((0, 1),), 1)
TURN = (False, True)
TRIANGLE = sets_apart(3, ((0, 1), (0, 2), (1, 2)), 2)
# Both ends fit and no renewal leads the one to the other: both places must be alike.
STUCK = spins(2, ((0, 1),), 1, 0)
LEVEL = Model(2, 1, ((3,), (1,)), ())
ZERO = (0, 1)
HALF = (1, 2)
SIZES = (0, 1, 2, 3, 4, 5, 7, 8, 9)
NO_COINS = (
    None, [], [(0, ZERO)], "", {}, 0, True, ((0, ZERO),) * 401, (0, ZERO), ((2, ZERO),), ((-1, ZERO),),
    ((True, ZERO),), ((0, (1, 1)),), ((0, (3, 2)),), ((0, (-1, 2)),), ((0, (2, 4)),), ((0, [0, 1]),), ([0, ZERO],),
    ((0, ZERO, 0),), ((0,),), ((0, 0),), ((0, None),), (None,), ((0, ZERO), None), ((0, ZERO), (0, ZERO), (2, ZERO)),
    ((0, (0, 2)),), ((0, (1, 0)),), ((0, (False, 1)),), ((0, (1, -2)),), ("0@0",))
NO_PLANS = (None, "", "two", "One", "one ", "doubles", 1, ("one",), ["one"], b"one", True, {"one": 1})


class DrawnPictureTest(unittest.TestCase):
    def test_e06(self):
        coins = ((0, ZERO), (1, ZERO))
        self.assertEqual(drawn_picture(EVEN, TURN, coins, "one"), ("told", (0, 0), 2))

    def test_told_ones(self):
        down, up = (0, ZERO), (1, HALF)
        self.assertEqual(drawn_picture(EVEN, TURN, (), "one"), ("undecided", ((0, 1), (1, 0)), 0))
        self.assertEqual(drawn_picture(EVEN, TURN, (down,), "one"), ("undecided", ((0, 1), (0, 0)), 1))
        self.assertEqual(drawn_picture(EVEN, TURN, (up,), "one"), ("undecided", ((0, 1), (1, 0)), 1))
        # The last coin is done first: with down first, up puts a 1 at place 1.
        self.assertEqual(drawn_picture(EVEN, TURN, (up, down), "one"), ("told", (0, 1), 2))
        self.assertEqual(drawn_picture(EVEN, TURN, (down, up), "one"), ("undecided", ((0, 1), (0, 0)), 2))
        self.assertEqual(drawn_picture(EVEN, (True, False), (), "one"), ("undecided", ((1, 0), (0, 1)), 0))
        self.assertEqual(drawn_picture(LEVEL, TURN, (), "one"), ("told", (0, 0), 0))
        self.assertEqual(drawn_picture(LEVEL, TURN, ((0, HALF),) * 400, "double"), ("told", (0, 0), 0))

    def test_coins_that_do_not_reach_for_the_next_look(self):
        down, up = (0, ZERO), (1, HALF)
        coins = (up, up, down)
        self.assertEqual(drawn_picture(EVEN, TURN, coins, "one"), ("told", (0, 1), 3))
        self.assertEqual(drawn_picture(EVEN, TURN, coins, "double"), ("undecided", ((0, 1), (1, 0)), 2))
        self.assertEqual(drawn_picture(EVEN, TURN, coins + (up,), "double"), ("told", (0, 1), 4))
        self.assertEqual(drawn_picture(EVEN, TURN, coins + (down,) * 4, "double"), ("told", (0, 1), 4))
        for many in SIZES + (400,):
            for plan, look in (("one", many), ("double", max([k for k in (0, 1, 2, 4, 8, 256) if k <= many]))):
                self.assertEqual(
                    drawn_picture(STUCK, (False, False), (up,) * many, plan), ("undecided", ((0, 0), (1, 1)), look))

    def test_against_the_words(self):
        chance = random.Random(221)
        counted = {}
        for _ in range(60):
            model, flips = any_rising(chance, chance.randint(1, 4), chance.randint(1, 3), 4)
            for many in SIZES + (chance.randint(10, 40),):
                coins = any_coins(chance, model, many)
                for plan in ("one", "double"):
                    found = drawn_picture(model, flips, coins, plan)
                    self.assertEqual(found, drawn_picture_by_hand(model, flips, coins, plan))
                    counted[found[0], plan] = counted.get((found[0], plan), 0) + 1
        self.assertGreater(min(counted.values()), 60)
        self.assertEqual(len(counted), 4)

    def test_400_coins(self):
        chance = random.Random(222)
        models = [any_rising(chance, many, levels, 6) for many, levels in ((4, 3), (6, 2), (12, 2))]
        models += [(stacks(3, 4, 3), (False,) * 12), (stacks(1, 2, 1), (False,) * 2)]
        for model, flips in models:
            coins = any_coins(chance, model, 400)
            for plan in ("one", "double"):
                found = drawn_picture(model, flips, coins, plan)
                if model.many < 12:
                    self.assertEqual(found, drawn_picture_by_hand(model, flips, coins, plan))
                word, thing, many = found
                both = ends_of(model, flips)
                for coin in coins[:many][::-1]:
                    both = tuple(renewed(model, picture, coin) for picture in both)
                self.assertEqual(thing, both[0] if word == "told" else both)
                self.assertIs(word == "told", both[0] == both[1])
                if word == "told" and plan == "one":
                    self.assertTrue(is_drawn_picture(model, flips, (thing, coins[:many])))

    def test_what_is_told_late(self):
        # Coins that do nothing, told at the very last look.
        still = (1, HALF)
        for many in (1, 3, 4, 7, 8, 127, 128, 255, 256, 300, 399):
            coins = (still,) * many + ((0, ZERO),)
            self.assertEqual(drawn_picture(EVEN, TURN, coins, "one"), ("told", (0, 1), many + 1))
            look = max([2 ** k for k in range(9) if 2 ** k <= many + 1])
            found = ("told", (0, 1), look) if look == many + 1 else ("undecided", ((0, 1), (1, 0)), look)
            self.assertEqual(drawn_picture(EVEN, TURN, coins, "double"), found)

    def test_the_fifth_and_twelfth_steps(self):
        chance = random.Random(223)
        for _ in range(25):
            model, flips = any_rising(chance, chance.randint(2, 4), 2, 4)
            coins = any_coins(chance, model, 30)
            told = drawn_picture(model, flips, coins, "one")
            if told[0] == "told":
                for more in (0, 1, 5):
                    longer = coins + any_coins(chance, model, more)
                    self.assertEqual(drawn_picture(model, flips, longer, "one"), told)
                    self.assertEqual(drawn_picture(model, flips, longer + coins[:2], "double")[1], told[1])
                for picture in fitting(model):
                    for coin in coins[:told[2]][::-1]:
                        picture = renewed(model, picture, coin)
                    self.assertEqual(picture, told[1])

    def test_shares_of_what_is_told(self):
        # Each cell of each place is drawn with its length: what is told by so many is what the system tells.
        for model in (EVEN, spins(2, ((0, 1),), 2, 1), stacks(1, 2, 2)):
            flips = flips_for(model)
            system = system_of(model)
            coins = [(place, low) for place in range(2) for low, _ in cells_by_hand(model, place)]
            shares = [worth(share) for share, _ in system.moves]
            pictures = fitting_by_hand(model)
            for depth in (1, 2, 3):
                told = [Fraction(0)] * len(pictures)
                left = Fraction(0)
                for row in product(range(len(coins)), repeat=depth):
                    part = Fraction(1)
                    for at in row:
                        part *= shares[at]
                    word, thing, _ = drawn_picture(model, flips, tuple(coins[at] for at in row), "one")
                    if word == "told":
                        told[pictures.index(thing)] += part
                    else:
                        left += part
                self.assertEqual(tuple(pair(part) for part in told), told_shares(system, depth))
                self.assertEqual(pair(left), undecided(system, depth))


class ErrorsTest(unittest.TestCase):
    def test_no_flips(self):
        for flips in odd_things() + [(), (0, 1), [False, True], (False, True, True), "+-"]:
            if not (type(flips) is tuple and [type(flip) for flip in flips] == [bool, bool]):
                self.assertRaises(NoFlips, drawn_picture, EVEN, flips, None, None)
                self.assertRaises(NoFlips, is_drawn_picture, EVEN, flips, None)

    def test_not_rising(self):
        for model, flips in ((EVEN, (False, False)), (EVEN, (True, True)), (TRIANGLE, (False, True, True))):
            self.assertRaises(NotRising, drawn_picture, model, flips, (), "one")
            self.assertRaises(NotRising, drawn_picture, model, flips, None, None)
            self.assertRaises(NotRising, is_drawn_picture, model, flips, None)
        # Its ends do not fit, either.
        self.assertIsNone(ends_by_hand(EVEN, (False, False)))

    def test_no_ends(self):
        for model, flips in (
                (Model(1, 2, ((0, 1),), ()), (False,)), (Model(1, 2, ((1, 0),), ()), (True,)),
                (Model(2, 2, ((1, 1), (0, 0)), ()), (False, True)), (colourings(2, ((0, 1),), 1), (False, False))):
            self.assertRaises(NoEnds, drawn_picture, model, flips, (), "one")
            self.assertRaises(NoEnds, drawn_picture, model, flips, None, None)
            self.assertRaises(NoEnds, is_drawn_picture, model, flips, None)

    def test_no_coins(self):
        for coins in NO_COINS:
            self.assertRaises(NoCoins, drawn_picture, EVEN, TURN, coins, "one")
            self.assertRaises(NoCoins, drawn_picture, EVEN, TURN, coins, None)
        tried = 0
        for coins in odd_things() + list(with_one_changed(((0, HALF), (1, ZERO)), odd_things())):
            if not are_coins_by_hand(EVEN, coins):
                self.assertRaises(NoCoins, drawn_picture, EVEN, TURN, coins, "one")
                tried += 1
        self.assertGreater(tried, 500)

    def test_no_plan(self):
        for plan in NO_PLANS + tuple(odd_things()):
            self.assertRaises(NoPlan, drawn_picture, EVEN, TURN, (), plan)
            self.assertRaises(NoPlan, drawn_picture, EVEN, TURN, ((0, ZERO),) * 400, plan)

    def test_400_coins_are_taken(self):
        self.assertEqual(drawn_picture(EVEN, TURN, ((0, ZERO), (1, ZERO)) * 200, "one"), ("told", (0, 0), 2))
        self.assertRaises(NoCoins, drawn_picture, EVEN, TURN, ((0, ZERO), (1, ZERO)) * 200 + ((0, ZERO),), "one")


class IsDrawnPictureTest(unittest.TestCase):
    def test_told_ones(self):
        coins = ((0, ZERO), (1, ZERO))
        self.assertIs(is_drawn_picture(EVEN, TURN, ((0, 0), coins)), True)
        self.assertIs(is_drawn_picture(EVEN, TURN, ((0, 0), coins[:1])), False)
        self.assertIs(is_drawn_picture(EVEN, TURN, ((0, 0), ())), False)
        self.assertIs(is_drawn_picture(EVEN, TURN, ((0, 0), coins + coins)), False)
        self.assertIs(is_drawn_picture(EVEN, TURN, ((0, 1), coins)), False)
        # They lead the lower end to it, but not the upper one.
        self.assertIs(is_drawn_picture(EVEN, TURN, ((0, 1), coins[:1])), False)
        self.assertIs(is_drawn_picture(LEVEL, TURN, ((0, 0), ())), True)
        self.assertIs(is_drawn_picture(LEVEL, TURN, ((0, 0), coins[:1])), False)

    def test_what_is_drawn_with_coins_more_or_fewer(self):
        chance = random.Random(224)
        tried = 0
        for _ in range(60):
            model, flips = any_rising(chance, chance.randint(1, 4), chance.randint(1, 3), 4)
            coins = any_coins(chance, model, 40)
            word, picture, many = drawn_picture(model, flips, coins, "one")
            if word == "told":
                tried += 1
                for more in range(len(coins) + 1):
                    found = is_drawn_picture(model, flips, (picture, coins[:more]))
                    self.assertIs(found, more == many)
                for other in fitting_by_hand(model):
                    found = is_drawn_picture(model, flips, (other, coins[:many]))
                    self.assertIs(found, other == picture)
        self.assertGreater(tried, 30)

    def test_all_pairs(self):
        coins = [(place, share) for place in (0, 1) for share in (ZERO, HALF, (2, 3))]
        for many in range(4):
            for row in product(coins, repeat=many):
                led = drawn_by_hand(
                    ((0, 1), (1, 0)), row, "one", lambda both, coin: pair_led_by_hand(EVEN, both, coin),
                    lambda both: both[0] if both[0] == both[1] else None)
                for picture in product(range(2), repeat=2):
                    found = is_drawn_picture(EVEN, TURN, (picture, row))
                    self.assertIs(found, led == ("told", picture, many))

    def test_anything_may_be_passed(self):
        good = ((0, 0), ((0, ZERO), (1, ZERO)))
        self.assertIs(is_drawn_picture(EVEN, TURN, good), True)
        for thing in odd_things() + list(with_one_changed(good, odd_things())):
            self.assertIn(is_drawn_picture(EVEN, TURN, thing), (True, False))
        for thing in (
                list(good), good + good, good[:1], (), None, ([0, 0], good[1]), (good[0], list(good[1])),
                ((False, 0), good[1]), ((0, 0), ((False, ZERO), (1, ZERO))), ((0, 0), ((0, (False, 1)), (1, ZERO))),
                ((0, 0), ((0, ZERO), (1, (0, 2)))), ((0, 0), ((0, ZERO), (2, ZERO))), ((0, 0, 0), good[1]),
                ((0, 0), ((0, ZERO), (1, (1, 1)))), ((0, 0), ((0, ZERO), (True, ZERO)))):
            self.assertIs(is_drawn_picture(EVEN, TURN, thing), False)
        for thing in odd_things():
            self.assertIs(is_drawn_picture(EVEN, TURN, thing), False)
            self.assertIs(is_drawn_picture(EVEN, TURN, (thing, good[1])), False)
            self.assertIs(is_drawn_picture(EVEN, TURN, (good[0], thing)), False)
        many = ((0, 1), ((1, HALF),) * 399 + ((0, ZERO),))
        self.assertIs(is_drawn_picture(EVEN, TURN, many), True)
        self.assertIs(is_drawn_picture(EVEN, TURN, ((0, 1), ((1, HALF),) * 400 + ((0, ZERO),))), False)

    def test_arguments_stay_as_they_are(self):
        weights, ties = MODEL.weights, MODEL.ties
        coins = ((0, ZERO), (1, HALF))
        self.assertEqual([weight_by_hand(MODEL, picture) for picture in ((0, 0), (2, 2))], [4, 0])
        self.assertRaises(NotRising, drawn_picture, MODEL, (False, False), coins, "one")
        self.assertEqual((MODEL.weights, MODEL.ties, coins), (weights, ties, ((0, ZERO), (1, HALF))))


if __name__ == "__main__":
    unittest.main()
