"""Promises 7.1 and 7.2, with 0.2 to 0.5: orders that moves keep, and what both ends tell."""

import random
import unittest
from itertools import combinations, permutations, product

from asifforever.drawing import drawn
from asifforever.errors import NoCoins, NoEnds, NoOrder, NoPlan, NoState, NotKept
from asifforever.merging import merging_row
from asifforever.orders import breaking, drawn_by_ends, ends, is_order, least_order, merging_by_ends
from asifforever.systems import System
from things import (
    SWAP, TWO, TWO_LOTS, all_rows, any_row, any_system, any_systems, led_by_hand, odd_things, parted, slow,
    with_one_changed)

HALF = (1, 2)
ONE = System(1, ((HALF, (0,)), (HALF, (0,))))
# Up and down along a line.
LINE = System(4, ((HALF, (1, 2, 3, 3)), (HALF, (0, 0, 1, 2))))
CHAIN = ((0, 1), (0, 2), (0, 3), (1, 2), (1, 3), (2, 3))
# 0 below 1 and 2, these below 3; each place of a pair is raised or lowered alone.
SQUARE = System(4, (((1, 4), (1, 1, 3, 3)), ((1, 4), (0, 0, 2, 2)), ((1, 4), (2, 3, 2, 3)), ((1, 4), (0, 1, 0, 1))))
DIAMOND = ((0, 1), (0, 2), (0, 3), (1, 3), (2, 3))
# The line's ends are led to its middle and back: kept, and never merged.
STAYS = System(3, ((HALF, (0, 1, 2)), (HALF, (0, 0, 2))))


def is_order_by_hand(many, pairs):
    """Whether pairs of states are an order, if they are a lot."""
    unlike = all(one != other and (other, one) not in pairs for one, other in pairs)
    closed = all((s, v) in pairs for s, t in pairs for u, v in pairs if t == u)
    return unlike and closed


def all_orders(many):
    """All orders of so many states."""
    pairs = list(permutations(range(many), 2))
    lots = [tuple(sorted(chosen)) for size in range(len(pairs) + 1) for chosen in combinations(pairs, size)]
    return [lot for lot in lots if is_order_by_hand(many, lot)]


def breaking_by_hand(system, order):
    """The least triple that shows that an order is not kept, of all there are."""
    found = [
        (one, other, move) for one, other in order for move, (_, leads) in enumerate(system.moves)
        if leads[one] != leads[other] and (leads[one], leads[other]) not in order]
    return min(found) if found else None


def ends_by_hand(many, order):
    """Both ends of an order, None for what is not there."""
    low = [state for state in range(many) if all((state, other) in order for other in range(many) if other != state)]
    high = [state for state in range(many) if all((other, state) in order for other in range(many) if other != state)]
    return (low[0] if low else None, high[0] if high else None)


def raised(order, leads):
    """Whether leads keep an order."""
    return all(leads[one] == leads[other] or (leads[one], leads[other]) in order for one, other in order)


def keeping(chance, many, order, moves):
    """A system of so many moves that keep an order, drawn; it leads to unlike states where it can."""
    kept = [leads for leads in product(range(many), repeat=many) if raised(order, leads)]
    return System(many, tuple(zip(parted(chance, moves), [chance.choice(kept) for _ in range(moves)])))


def kept_systems(seed):
    """Pairs of a system and an order with both ends that it keeps."""
    chance = random.Random(seed)
    found = [(LINE, CHAIN), (SQUARE, DIAMOND), (STAYS, ((0, 1), (0, 2), (1, 2))), (ONE, ())]
    for many in (2, 3, 4):
        orders = [order for order in all_orders(many) if None not in ends_by_hand(many, order)]
        for _ in range(25):
            order = chance.choice(orders)
            found.append((keeping(chance, many, order, chance.randint(1, 3)), order))
    return found


class IsOrderTest(unittest.TestCase):
    def test_told_ones(self):
        for system, order in (
                (LINE, CHAIN), (LINE, DIAMOND), (LINE, ()), (LINE, ((3, 0),)), (LINE, ((0, 1), (2, 3))),
                (LINE, ((0, 1), (2, 1))), (LINE, ((0, 1), (0, 2))), (TWO, ((1, 0),)), (ONE, ()),
                (LINE, ((1, 0), (2, 0), (2, 1), (3, 0), (3, 1), (3, 2)))):
            self.assertIs(is_order(system, order), True)

    def test_no_orders(self):
        for thing in (
                ((0, 1), (1, 2)), ((0, 1), (1, 0)), ((0, 1), (1, 2), (2, 0)), ((0, 0),), ((0, 1), (0, 1)),
                ((0, 2), (0, 1)), ((0, 4),), ((-1, 0),), ((0, 1, 2),), ((0,),), (0, 1), [(0, 1)], ([0, 1],), [],
                ((0, True),), ((False, 1),), ((0, 1), (1, 1)), "01", ("01",), None, 0, {(0, 1): 0},
                ((0, 1), (0, 2), (1, 2), (2, 1)), (((0,), (1,)),), ((0, 1), (1, 2), (1, 3), (2, 3), (0, 2), (0, 3))):
            self.assertIs(is_order(LINE, thing), False, thing)
        self.assertIs(is_order(ONE, ((0, 0),)), False)
        self.assertIs(is_order(ONE, ((0, 1),)), False)
        self.assertIs(is_order(TWO, ((0, 2),)), False)

    def test_all_lots_of_pairs(self):
        for many in (1, 2, 3):
            system = System(many, (((1, 1), (0,) * many),))
            pairs = list(product(range(many), repeat=2))
            for size in range(len(pairs) + 1):
                for lot in combinations(pairs, size):
                    self.assertIs(is_order(system, lot), is_order_by_hand(many, lot), lot)
                    if len(lot) > 1:
                        self.assertIs(is_order(system, lot[::-1]), False)
        self.assertEqual(len(all_orders(4)), 219)
        for order in all_orders(4):
            self.assertIs(is_order(LINE, order), True)

    def test_pairs_more_and_fewer(self):
        chain = tuple(combinations(range(12), 2))
        system = slow(12)
        self.assertIs(is_order(system, chain), True)
        for one, other in chain:
            fewer = tuple(pair for pair in chain if pair != (one, other))
            # Only neighbours stand in no two pairs in a row.
            self.assertIs(is_order(system, fewer), other == one + 1)
            self.assertIs(is_order(system, tuple(sorted(chain + ((other, one),)))), False)
            self.assertIs(is_order(system, chain + ((one, other),)), False)
        for order in all_orders(4)[::7]:
            for pair in permutations(range(4), 2):
                lot = tuple(sorted(set(order) ^ {pair}))
                self.assertIs(is_order(LINE, lot), is_order_by_hand(4, lot))

    def test_anything_may_be_judged(self):
        things = [thing for thing in odd_things() if not isinstance(thing, tuple) or thing not in ((), (0, 2))]
        for thing in things + list(with_one_changed(CHAIN, things)):
            self.assertIs(is_order(LINE, thing), False)
            self.assertRaises(NoOrder, breaking, LINE, thing)
            self.assertRaises(NoOrder, ends, LINE, thing)
            self.assertRaises(NoOrder, merging_by_ends, LINE, thing)
            self.assertRaises(NoOrder, drawn_by_ends, LINE, thing, None, None)
        for thing in things:
            self.assertIs(is_order(ONE, thing), False)


class BreakingTest(unittest.TestCase):
    def test_told_ones(self):
        self.assertIsNone(breaking(LINE, CHAIN))
        self.assertIsNone(breaking(SQUARE, DIAMOND))
        self.assertIsNone(breaking(LINE, ()))
        self.assertIsNone(breaking(ONE, ()))
        self.assertEqual(breaking(LINE, DIAMOND), (0, 1, 0))
        self.assertEqual(breaking(SQUARE, CHAIN), (1, 2, 2))
        self.assertEqual(breaking(TWO, ((0, 1),)), (0, 1, 0))
        self.assertEqual(breaking(TWO, ((1, 0),)), (1, 0, 0))
        self.assertEqual(breaking(System(2, (((1, 2), (0, 1)), ((1, 2), (1, 0)))), ((0, 1),)), (0, 1, 1))

    def test_against_all_pairs_and_moves(self):
        chance = random.Random(101)
        broken = 0
        for many in (2, 3, 4):
            orders = all_orders(many)
            for _ in range(150):
                system = any_system(chance, many, chance.randint(1, 4))
                order = chance.choice(orders)
                found = breaking_by_hand(system, order)
                broken += found is not None
                self.assertEqual(breaking(system, order), found)
        self.assertGreater(broken, 50)
        for system, order in kept_systems(102):
            self.assertIsNone(breaking(system, order))

    def test_no_orders(self):
        for order in (((0, 1), (1, 2)), ((0, 1), (1, 0)), [], None, ((0, 4),), ((0, 0),)):
            self.assertRaises(NoOrder, breaking, LINE, order)
            self.assertRaises(NoOrder, ends, LINE, order)


class EndsTest(unittest.TestCase):
    def test_told_ones(self):
        self.assertEqual(ends(LINE, CHAIN), (0, 3))
        self.assertEqual(ends(LINE, DIAMOND), (0, 3))
        self.assertEqual(ends(LINE, ()), (None, None))
        self.assertEqual(ends(LINE, ((0, 1), (0, 2), (0, 3))), (0, None))
        self.assertEqual(ends(LINE, ((0, 2), (1, 2), (3, 2))), (None, 2))
        self.assertEqual(ends(LINE, ((3, 0), (3, 1), (3, 2))), (3, None))
        self.assertEqual(ends(TWO, ((1, 0),)), (1, 0))
        self.assertEqual(ends(TWO, ()), (None, None))
        self.assertEqual(ends(ONE, ()), (0, 0))

    def test_all_orders(self):
        for many in (1, 2, 3, 4):
            system = System(many, (((1, 1), (0,) * many),))
            for order in all_orders(many):
                self.assertEqual(ends(system, order), ends_by_hand(many, order))


class LeastOrderTest(unittest.TestCase):
    def test_told_ones(self):
        self.assertEqual(least_order(LINE, 0, 3), CHAIN)
        self.assertEqual(least_order(SQUARE, 0, 3), DIAMOND)
        self.assertEqual(least_order(LINE, 3, 0), tuple(sorted((other, one) for one, other in CHAIN)))
        self.assertIsNone(least_order(LINE, 0, 2))
        self.assertIsNone(least_order(TWO, 0, 1))
        self.assertEqual(least_order(ONE, 0, 0), ())
        self.assertEqual(least_order(System(2, (((1, 1), (1, 1)),)), 1, 0), ((1, 0),))
        line = System(12, ((HALF, tuple(min(k + 1, 11) for k in range(12))), (HALF, (0,) + tuple(range(11)))))
        self.assertEqual(least_order(line, 0, 11), tuple(combinations(range(12), 2)))

    def test_pairs_that_only_two_in_a_row_make(self):
        # One move leads to 1 below 2, another to 2 below 3; none leads to 1 below 3.
        one, other, third = (1, 2, 2, 2, 2), (2, 3, 3, 3, 3), (3, 1, 1, 1, 1)
        for leads in permutations((one, other)):
            system = System(5, tuple((HALF, way) for way in leads))
            self.assertEqual(least_order(system, 0, 4), tuple(combinations(range(5), 2)))
        # A third one leads to 3 below 1: contrary only by two pairs in a row.
        for leads in permutations((one, other, third)):
            self.assertIsNone(least_order(System(5, tuple(((1, 3), way) for way in leads)), 0, 4))

    def test_against_all_orders(self):
        chance = random.Random(103)
        counted = [0, 0]
        for many in (1, 2, 3, 4):
            orders = all_orders(many)
            for _ in range(40):
                system = any_system(chance, many, chance.randint(1, 2))
                self.assert_least(system, orders, counted)
        for system, _ in kept_systems(104):
            self.assert_least(system, all_orders(system.many), counted)
        self.assertGreater(min(counted), 100)

    def assert_least(self, system, orders, counted):
        kept = [order for order in orders if breaking_by_hand(system, order) is None]
        for low, high in product(range(system.many), repeat=2):
            if low != high or system.many == 1:
                fitting = [order for order in kept if ends_by_hand(system.many, order) == (low, high)]
                expected = min(fitting, key=len, default=None)
                counted[expected is None] += 1
                self.assertEqual(least_order(system, low, high), expected)
                self.assertTrue(all(set(expected) <= set(order) for order in fitting))

    def test_no_states(self):
        for state in odd_things() + [4, 5, 12, (0,), [0], "0"]:
            self.assertRaises(NoState, least_order, LINE, state, 3)
            self.assertRaises(NoState, least_order, LINE, 0, state)
            self.assertRaises(NoState, least_order, LINE, state, state)
        for low, high in ((0, 1), (1, 0), (1, 1), (None, 0), (0, False)):
            self.assertRaises(NoState, least_order, ONE, low, high)

    def test_no_ends(self):
        for state in range(4):
            self.assertRaises(NoEnds, least_order, LINE, state, state)
        self.assertRaises(NoEnds, least_order, TWO, 0, 0)
        self.assertRaises(NoEnds, least_order, TWO_LOTS, 3, 3)


class MergingByEndsTest(unittest.TestCase):
    def test_told_ones(self):
        self.assertEqual(merging_by_ends(LINE, CHAIN), (0, 0, 0))
        self.assertEqual(merging_by_ends(SQUARE, DIAMOND), (0, 2))
        self.assertEqual(merging_by_ends(ONE, ()), ())
        self.assertIsNone(merging_by_ends(STAYS, ((0, 1), (0, 2), (1, 2))))
        self.assertIsNone(merging_by_ends(System(2, (((1, 1), (0, 1)),)), ((0, 1),)))

    def test_against_rows_gone_through(self):
        none = 0
        for system, order in kept_systems(105):
            low, high = ends_by_hand(system.many, order)
            found = None
            for length in range(7):
                for row in all_rows(system, length):
                    led = led_by_hand(system, row)
                    if found is None and led[low] == led[high]:
                        found = row
            none += found is None
            if found is not None:
                self.assertEqual(merging_by_ends(system, order), found)
            # The eighth step: what leads both ends to one leads all to one.
            self.assertEqual(merging_by_ends(system, order), merging_row(system))
        self.assertGreater(none, 5)

    def test_errors_in_their_order(self):
        for asked in (merging_by_ends, lambda system, order: drawn_by_ends(system, order, None, None)):
            self.assertRaises(NoOrder, asked, TWO, ((0, 1), (1, 0)))
            self.assertRaises(NotKept, asked, TWO, ((0, 1),))
            self.assertRaises(NotKept, asked, LINE, DIAMOND)
            # Neither kept nor with both ends.
            self.assertRaises(NotKept, asked, LINE, ((0, 3),))
            self.assertRaises(NoEnds, asked, LINE, ())
            self.assertRaises(NoEnds, asked, SWAP, ())
            up = System(3, (((1, 1), (0, 1, 2)),))
            self.assertRaises(NoEnds, asked, up, ((0, 1), (0, 2)))
            self.assertRaises(NoEnds, asked, up, ((0, 2), (1, 2)))


class DrawnByEndsTest(unittest.TestCase):
    def test_told_ones(self):
        self.assertEqual(drawn_by_ends(LINE, CHAIN, (0, 0, 0), "one"), ("told", 3, 3))
        self.assertEqual(drawn_by_ends(LINE, CHAIN, (0, 0, 0), "double"), ("undecided", (2, 3), 2))
        self.assertEqual(drawn_by_ends(LINE, CHAIN, (1, 1), "one"), ("undecided", (0, 1), 2))
        self.assertEqual(drawn_by_ends(LINE, CHAIN, (), "one"), ("undecided", (0, 3), 0))
        self.assertEqual(drawn_by_ends(SQUARE, DIAMOND, (0, 3), "double"), ("told", 1, 2))
        self.assertEqual(drawn_by_ends(ONE, (), (0, 1), "double"), ("told", 0, 0))

    def test_the_pair_is_not_a_lot(self):
        down = tuple((other, one) for one, other in sorted(CHAIN, key=lambda pair: (pair[1], pair[0])))
        self.assertEqual(drawn_by_ends(LINE, down, (0,), "one"), ("undecided", (3, 1), 1))

    def test_against_both_ends_by_hand_and_drawn(self):
        chance = random.Random(106)
        kinds = set()
        for system, order in kept_systems(107):
            low, high = ends_by_hand(system.many, order)
            for length in (0, 1, 2, 3, 4, 5, 7, 8, 9, 60, 400):
                coins = any_row(chance, system, length)
                for plan in ("one", "double"):
                    found = drawn_by_ends(system, order, coins, plan)
                    whole = drawn(system, coins, plan)
                    kinds.add((found[0], plan))
                    self.assertEqual((found[0], found[2]), (whole[0], whole[2]))
                    led = led_by_hand(system, tuple(reversed(coins[:found[2]])))
                    if found[0] == "told":
                        self.assertEqual(found, whole)
                        self.assertEqual((led[low], led[high]), (found[1], found[1]))
                    else:
                        self.assertEqual(found[1], (led[low], led[high]))
        self.assertEqual(len(kinds), 4)

    def test_no_coins(self):
        for coins in odd_things() + list(with_one_changed((0, 1, 0), odd_things())) + [
                [], [0], (2,), (0, -1), (False,), "0", (0,) * 401]:
            self.assertRaises(NoCoins, drawn_by_ends, LINE, CHAIN, coins, "one")
            self.assertRaises(NoCoins, drawn_by_ends, LINE, CHAIN, coins, None)
        self.assertRaises(NoCoins, drawn_by_ends, ONE, (), (2,), "one")

    def test_no_plans(self):
        for plan in odd_things() + ["One", "two", ("one",), ["double"], b"one", 1]:
            self.assertRaises(NoPlan, drawn_by_ends, LINE, CHAIN, (0, 1), plan)
            self.assertRaises(NoPlan, drawn_by_ends, ONE, (), (), plan)

    def test_errors_in_their_order(self):
        self.assertRaises(NoEnds, drawn_by_ends, LINE, (), (9,), "one")
        self.assertRaises(NotKept, drawn_by_ends, TWO, ((0, 1),), (9,), "two")
        self.assertRaises(NoOrder, drawn_by_ends, TWO, None, (9,), "two")


class AnySystemsTest(unittest.TestCase):
    def test_the_least_order_of_any_system_is_kept_and_has_its_ends(self):
        found = 0
        for system in any_systems(108, 200, 7):
            for low, high in permutations(range(system.many), 2):
                order = least_order(system, low, high)
                if order is not None:
                    found += 1
                    self.assertIs(is_order(system, order), True)
                    self.assertIsNone(breaking(system, order))
                    self.assertEqual(ends(system, order), (low, high))
                    self.assertEqual(merging_by_ends(system, order), merging_row(system))
        self.assertGreater(found, 30)


if __name__ == "__main__":
    unittest.main()
