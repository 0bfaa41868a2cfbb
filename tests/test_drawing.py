"""Promises 4.1 and 4.3, with 0.2 to 0.5: what coins tell, by both plans, and what a drawn state is shown by."""

import random
import unittest

from asifforever.drawing import drawn, is_drawn
from asifforever.errors import NoCoins, NoPlan
from asifforever.merging import merging_row, told_shares
from asifforever.systems import System
from things import (
    SWAP, TWO, TWO_LOTS, all_rows, any_row, any_systems, lot_by_hand, odd_things, pair, row_worth, slow,
    with_one_changed)

ONE = System(1, (((1, 3), (0,)), ((2, 3), (0,))))
HALF = (1, 2)
# Rows (0, 1) alone merge, so that only coins with 1 just ahead of 0 tell: 1 is done last.
STEPPED = System(3, ((HALF, (1, 1, 2)), (HALF, (0, 2, 2))))
LENGTHS = (0, 1, 2, 3, 4, 5, 7, 8, 9, 16, 400)


def looks_of(plan):
    """The numbers that a plan looks at, up to 400 coins."""
    return list(range(401)) if plan == "one" else [0, 1, 2, 4, 8, 16, 32, 64, 128, 256]


def drawn_by_hand(system, coins, plan):
    """What coins tell, all states led through them as they are done at each look."""
    found = None
    for many in looks_of(plan):
        if many > len(coins):
            break
        lot = lot_by_hand(system, tuple(reversed(coins[:many])))
        if len(lot) == 1:
            return ("told", lot[0], many)
        found = ("undecided", lot, many)
    return found


class DrawnTest(unittest.TestCase):
    def test_e04(self):
        self.assertEqual(drawn(TWO, (0, 1, 0), "one"), ("told", 1, 2))

    def test_the_first_coin_is_done_last(self):
        self.assertEqual(drawn(TWO, (1, 0), "one"), ("told", 0, 1))
        self.assertEqual(drawn(TWO, (0, 1), "one"), ("told", 1, 2))
        self.assertEqual(drawn(TWO, (0, 0, 1), "one"), ("told", 0, 3))
        self.assertEqual(drawn(STEPPED, (1, 0), "one"), ("told", 2, 2))
        self.assertEqual(drawn(STEPPED, (0, 1), "one"), ("undecided", (1, 2), 2))
        self.assertEqual(drawn(STEPPED, (0, 1, 0), "one"), ("told", 2, 3))
        self.assertEqual(drawn(STEPPED, (0, 1, 1, 1), "double"), ("undecided", (1, 2), 4))

    def test_the_plan_double(self):
        self.assertEqual(drawn(TWO, (0, 0, 1), "double"), ("undecided", (0, 1), 2))
        self.assertEqual(drawn(TWO, (0, 0, 1, 0), "double"), ("told", 0, 4))
        self.assertEqual(drawn(TWO, (0, 0, 1, 1), "double"), ("told", 0, 4))
        self.assertEqual(drawn(TWO, (0,) * 7 + (1,), "double"), ("told", 1, 8))
        self.assertEqual(drawn(TWO, (0,) * 7, "double"), ("undecided", (0, 1), 4))
        self.assertEqual(drawn(SWAP, (0,) * 400, "double"), ("undecided", (0, 1), 256))
        self.assertEqual(drawn(SWAP, (0,) * 400, "one"), ("undecided", (0, 1), 400))

    def test_the_lot_is_that_behind_the_last_look(self):
        # By four coins the lot is (1, 2), by the seventh (2,): the plan double does not see it.
        coins = (0, 1, 1, 1, 1, 1, 0)
        self.assertEqual(drawn(STEPPED, coins, "one"), ("told", 2, 7))
        self.assertEqual(drawn(STEPPED, coins, "double"), ("undecided", (1, 2), 4))
        self.assertEqual(drawn(TWO_LOTS, (), "one"), ("undecided", (0, 1, 2, 3), 0))
        self.assertEqual(drawn(TWO_LOTS, (1,), "double"), ("undecided", (1, 2, 3), 1))

    def test_no_coins_at_all(self):
        for plan in ("one", "double"):
            self.assertEqual(drawn(TWO, (), plan), ("undecided", (0, 1), 0))
            for coins in ((), (0,), (1, 0, 1), (0,) * 400):
                self.assertEqual(drawn(ONE, coins, plan), ("told", 0, 0))

    def test_against_leading_by_hand(self):
        chance = random.Random(61)
        for system in any_systems(62, 60, 12) + [ONE, SWAP, TWO, TWO_LOTS, STEPPED, slow(3), slow(5)]:
            for length in LENGTHS:
                coins = any_row(chance, system, length)
                for plan in ("one", "double"):
                    self.assertEqual(drawn(system, coins, plan), drawn_by_hand(system, coins, plan))

    def test_long_ways(self):
        # The one row of 121 moves that merges 12 states, as coins; then coins ahead of which it stands.
        row = merging_row(slow(12))
        coins = tuple(reversed(row))
        self.assertEqual(drawn(slow(12), coins, "one")[::2], ("told", 121))
        self.assertEqual(drawn(slow(12), coins[:-1], "one")[::2], ("undecided", 120))
        self.assertEqual(drawn(slow(12), coins, "double")[::2], ("undecided", 64))
        self.assertEqual(drawn(slow(12), coins + (0,) * 7, "double")[::2], ("told", 128))
        self.assertEqual(drawn(slow(12), (0,) * 279 + coins, "one")[::2], ("told", 400))
        self.assertEqual(drawn(slow(12), (0,) * 279 + coins, "double")[::2], ("undecided", 256))

    def test_the_fifth_step(self):
        chance = random.Random(63)
        both = 0
        for system in any_systems(64, 100, 6):
            coins = any_row(chance, system, 40)
            one, double = drawn(system, coins, "one"), drawn(system, coins, "double")
            if one[0] == "told":
                for further in (coins[:one[2]], coins + any_row(chance, system, 30)):
                    self.assertEqual(drawn(system, further, "one"), one)
            if double[0] == "told":
                both += 1
                self.assertEqual(one[:2], double[:2])
                self.assertLessEqual(one[2], double[2])
                self.assertEqual(drawn(system, coins[:double[2]] + any_row(chance, system, 30), "double"), double)
        self.assertGreater(both, 30)

    def test_the_main_fact(self):
        for system in any_systems(65, 50, 5) + [TWO, ONE, SWAP, STEPPED]:
            for plan, lengths in (("one", (0, 1, 2, 3, 5)), ("double", (0, 1, 2, 4))):
                for length in lengths:
                    if len(system.moves) ** length < 700:
                        told = [0] * system.many
                        for coins in all_rows(system, length):
                            found = drawn(system, coins, plan)
                            if found[0] == "told":
                                told[found[1]] += row_worth(system, coins)
                        self.assertEqual(tuple(map(pair, told)), told_shares(system, length))

    def test_no_coins(self):
        for coins in (
                [], [0], (2,), (0, 2), (-1,), (0, True), (False,), ("0",), 0, "", "0", None, {0: 0}, ((0,),), (0,) * 401):
            self.assertRaises(NoCoins, drawn, TWO, coins, "one")
            self.assertRaises(NoCoins, drawn, TWO, coins, "double")
            self.assertRaises(NoCoins, drawn, TWO, coins, None)
        for coins in odd_things() + list(with_one_changed((0, 1, 0), odd_things())):
            self.assertRaises(NoCoins, drawn, TWO, coins, "one")
            self.assertRaises(NoCoins, drawn, TWO, coins, coins)
        for coins in ((0,) * 401, (1,) + (0,) * 400, (0,) * 20000, (1,) * 401 + (None,)):
            self.assertRaises(NoCoins, drawn, TWO, coins, "one")
        self.assertRaises(NoCoins, drawn, ONE, (2,), "one")
        self.assertRaises(NoCoins, drawn, TWO, (1, None), "one")

    def test_no_plans(self):
        for plan in odd_things() + ["One", "one ", "two", "doubles", "one\n", ("one",), ["one"], b"one", 1, 2]:
            for system in (TWO, ONE, SWAP):
                self.assertRaises(NoPlan, drawn, system, (0,), plan)
                self.assertRaises(NoPlan, drawn, system, (), plan)


class IsDrawnTest(unittest.TestCase):
    def test_told_ones(self):
        self.assertIs(is_drawn(TWO, (1, (0, 1))), True)
        self.assertIs(is_drawn(TWO, (0, (1,))), True)
        for thing in (
                (0, (0, 1)), (1, (0, 1, 0)), (1, (0,)), (1, (1, 0)), (0, (1, 1)), (0, ()), (1, ()), (1, (1,)),
                (0, (0, 0, 1, 1))):
            self.assertIs(is_drawn(TWO, thing), False, thing)
        self.assertIs(is_drawn(TWO, (0, (0, 0, 1))), True)

    def test_one_state(self):
        self.assertIs(is_drawn(ONE, (0, ())), True)
        for thing in ((0, (0,)), (0, (1, 0)), (1, ()), (False, ()), ((), 0), (0,), (0, (), ()), 0, (), (0, []), [0, ()]):
            self.assertIs(is_drawn(ONE, thing), False, thing)

    def test_what_drawn_tells_and_what_is_near(self):
        chance = random.Random(66)
        told = 0
        for system in any_systems(67, 80, 6) + [STEPPED, slow(4)]:
            coins = any_row(chance, system, 60)
            found = drawn(system, coins, "one")
            if found[0] == "told":
                told += 1
                _, state, many = found
                for length in range(60):
                    for other in range(-1, system.many + 1):
                        shown = length == many and other == state
                        self.assertIs(is_drawn(system, (other, coins[:length])), shown)
                self.assertIs(is_drawn(system, (state, list(coins[:many]))), False)
                self.assertIs(is_drawn(system, [state, coins[:many]]), False)
                self.assertIs(is_drawn(system, (state, coins[:many], coins)), False)
            else:
                self.assertFalse(any(is_drawn(system, (state, coins)) for state in range(system.many)))
        self.assertGreater(told, 20)

    def test_the_most_coins(self):
        coins = (0,) * 279 + tuple(reversed(merging_row(slow(12))))
        state = drawn(slow(12), coins, "one")[1]
        self.assertIs(is_drawn(slow(12), (state, coins)), True)
        self.assertIs(is_drawn(slow(12), (state, (0,) + coins)), False)
        self.assertIs(is_drawn(TWO, (0, (0,) * 399 + (1,))), False)
        self.assertIs(is_drawn(TWO, (1, (0,) * 399 + (1,))), True)
        self.assertIs(is_drawn(TWO, (0, (0,) * 400 + (1,))), False)

    def test_anything_may_be_judged(self):
        things = odd_things()
        for thing in things + list(with_one_changed((1, (0, 1)), things)):
            self.assertIs(is_drawn(TWO, thing), False)
        for thing in things + list(with_one_changed((0, (1,)), things)):
            self.assertIs(is_drawn(TWO, thing), False)
        for thing in things:
            self.assertIs(is_drawn(ONE, thing), False)
            self.assertIs(is_drawn(ONE, (thing, ())), False)
            self.assertIs(is_drawn(ONE, (0, thing)), False)


if __name__ == "__main__":
    unittest.main()
