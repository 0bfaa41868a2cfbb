"""Promises 3.1, 3.2 and 3.3, with 0.2 to 0.5: rows that merge, books, and how much is told by when."""

import random
import unittest
from fractions import Fraction
from itertools import combinations

from asifforever.errors import NoNumber, NoShare, NothingTold
from asifforever.merging import (
    apart, bias, depth_for, hasty, is_book, lots_behind, merging_row, told_shares, undecided)
from asifforever.steady import steady_spreads
from asifforever.systems import System
from things import (
    SWAP, TWO, TWO_LOTS, all_rows, any_system, any_systems, led_by_hand, long_system, lot_by_hand, odd_things, pair,
    row_worth, slow, with_one_changed, worth)

ONE = System(1, (((1, 3), (0,)), ((2, 3), (0,))))
KEPT = System(3, (((1, 1), (0, 1, 2)),))
HALF = (1, 2)
# 0 and 1 are swapped with 2 and 3, crosswise and not: all couples but (0, 1) and (2, 3) stay apart.
CROSS = System(4, ((HALF, (2, 2, 0, 0)), (HALF, (3, 3, 1, 1))))


def turned(couple, leads):
    """What a move leads a couple to, the lesser first."""
    one, other = sorted((leads[couple[0]], leads[couple[1]]))
    return (one, other)


def apart_by_hand(system):
    """The couples from which one state is not met, by going back from those that a move leads to one."""
    couples = list(combinations(range(system.many), 2))
    merged = set()
    while True:
        more = {couple for couple in couples for _, leads in system.moves
                if len(set(turned(couple, leads))) == 1 or turned(couple, leads) in merged}
        if more <= merged:
            return tuple(couple for couple in couples if couple not in merged)
        merged |= more


def row_by_hand(system, most):
    """The least of the shortest rows of up to so many moves that merge, of all there are."""
    for length in range(most + 1):
        for row in all_rows(system, length):
            if len(set(led_by_hand(system, row))) == 1:
                return row
    return None


def book_by_hand(system, thing):
    """Whether a tuple of pairs of integers is a book."""
    couples = set(combinations(range(system.many), 2))
    return (
        len(thing) > 0 and list(thing) == sorted(set(thing)) and set(thing) <= couples
        and all(turned(couple, leads) in thing for couple in thing for _, leads in system.moves))


class MergingRowTest(unittest.TestCase):
    def test_told_ones(self):
        self.assertEqual(merging_row(TWO), (1,))
        self.assertEqual(merging_row(ONE), ())
        self.assertEqual(merging_row(System(3, ((HALF, (1, 1, 2)), (HALF, (0, 2, 2))))), (0, 1))
        for system in (SWAP, TWO_LOTS, KEPT):
            self.assertIsNone(merging_row(system))

    def test_the_least_of_the_shortest(self):
        stay = ((1, 4), (0, 1, 2))
        system = System(3, (stay, ((1, 4), (1, 1, 2)), ((1, 4), (0, 2, 2)), ((1, 4), (0, 0, 2))))
        self.assertEqual(merging_row(system), (1, 2))
        # A longer one that begins with 0 is none, whatever the order of moves.
        self.assertEqual(merging_row(System(2, ((HALF, (1, 0)), ((1, 4), (0, 0)), ((1, 4), (1, 1))))), (1,))

    def test_against_all_rows(self):
        none = 0
        for system in any_systems(41, 150, 4):
            found = row_by_hand(system, 5)
            if found is not None:
                self.assertEqual(merging_row(system), found)
            elif apart_by_hand(system):
                none += 1
                self.assertIsNone(merging_row(system))
            else:
                self.assertGreater(len(merging_row(system)), 5)
        self.assertGreater(none, 10)

    def test_long_rows(self):
        for many in range(2, 13):
            row = merging_row(slow(many))
            self.assertEqual(len(row), (many - 1) ** 2)
            self.assertEqual(row, (1,) + ((0,) * (many - 1) + (1,)) * (many - 2))
            self.assertEqual(len(lot_by_hand(slow(many), row)), 1)
            self.assertEqual(apart(slow(many)), ())
        for many in (2, 3, 4):
            self.assertEqual(row_by_hand(slow(many), 9), merging_row(slow(many)))

    def test_just_one_of_both(self):
        counted = [0, 0]
        for system in any_systems(42, 300, 12) + [ONE, KEPT, CROSS, TWO_LOTS, SWAP, long_system()]:
            row = merging_row(system)
            self.assertIs(is_book(system, apart(system)), row is None)
            counted[row is None] += 1
            if row is not None:
                self.assertEqual(apart(system), ())
                self.assertEqual(len(lot_by_hand(system, row)), 1)
        self.assertGreater(min(counted), 20)


class BookTest(unittest.TestCase):
    def test_apart_of_told_ones(self):
        self.assertEqual(apart(TWO), ())
        self.assertEqual(apart(ONE), ())
        self.assertEqual(apart(SWAP), ((0, 1),))
        self.assertEqual(apart(KEPT), ((0, 1), (0, 2), (1, 2)))
        self.assertEqual(apart(CROSS), ((0, 2), (0, 3), (1, 2), (1, 3)))
        self.assertEqual(apart(TWO_LOTS), ((0, 1), (1, 2), (1, 3), (2, 3)))

    def test_apart_against_going_back(self):
        for system in any_systems(43, 200, 8) + any_systems(44, 20, 12):
            self.assertEqual(apart(system), apart_by_hand(system))

    def test_apart_against_all_rows(self):
        for system in any_systems(45, 60, 4):
            if len(system.moves) < 4:
                rows = [row for length in range(7) for row in all_rows(system, length)]
                met = {couple for row in rows for couple in combinations(range(system.many), 2)
                       if len(set(turned(couple, led_by_hand(system, row)))) == 1}
                # Six couples at most, so six moves are enough.
                couples = combinations(range(system.many), 2)
                self.assertEqual(apart(system), tuple(couple for couple in couples if couple not in met))

    def test_told_books(self):
        for thing in (((0, 1), (0, 2), (1, 2)), ((0, 1),), ((0, 2),), ((0, 1), (1, 2))):
            self.assertIs(is_book(KEPT, thing), True)
        self.assertIs(is_book(SWAP, ((0, 1),)), True)
        self.assertIs(is_book(TWO, ((0, 1),)), False)
        self.assertIs(is_book(CROSS, ((0, 2), (0, 3), (1, 2), (1, 3))), True)
        self.assertIs(is_book(CROSS, ((0, 2), (1, 3))), True)
        self.assertIs(is_book(CROSS, ((0, 3), (1, 2))), False)
        self.assertIs(is_book(CROSS, ((0, 1), (0, 2), (0, 3), (1, 2), (1, 3))), False)
        self.assertIs(is_book(TWO_LOTS, ((1, 2), (1, 3), (2, 3))), True)
        self.assertIs(is_book(TWO_LOTS, ((1, 2),)), True)
        self.assertIs(is_book(TWO_LOTS, ((1, 3),)), False)

    def test_no_books(self):
        for thing in (
                (), [], [(0, 1)], ([0, 1],), ((0, 1), (0, 1)), ((1, 0),), ((0, 1), (2, 1)), ((0, 2), (0, 1)),
                ((0, 1), (1, 2), (0, 2)), ((0, 0),), ((0, 3),), ((-1, 0),), ((0, 1, 2),), ((0,),), (0, 1),
                ((False, True),), ((False, 1),), ((0, True),), ((0, "1"),), ((0, None),), ("01",), {(0, 1): 0}, "01",
                None, 0, True, (((0,), (1,)),)):
            self.assertIs(is_book(KEPT, thing), False, thing)
        self.assertIs(is_book(ONE, ()), False)
        self.assertIs(is_book(ONE, ((0, 0),)), False)
        self.assertIs(is_book(ONE, ((0, 1),)), False)

    def test_couples_more_and_fewer(self):
        for system in [CROSS, TWO_LOTS, KEPT] + any_systems(46, 60, 6):
            book = apart(system)
            for couple in combinations(range(system.many), 2):
                fewer = tuple(other for other in book if other != couple)
                more = tuple(sorted(set(book) | {couple}))
                for thing in (fewer, more, book[::-1], book + book, book + (couple[::-1],), (couple,)):
                    self.assertIs(is_book(system, thing), book_by_hand(system, thing), thing)

    def test_anything_may_be_judged(self):
        # (0, 2) is a couple of KEPT like another.
        things = [thing for thing in odd_things() if not (isinstance(thing, tuple) and thing == (0, 2))]
        for thing in things + list(with_one_changed(((0, 1), (1, 2)), things)):
            self.assertIs(is_book(KEPT, thing), False)
        for thing in things + list(with_one_changed(((0, 1),), things)):
            self.assertIs(is_book(SWAP, thing), False)
            self.assertIs(is_book(ONE, thing), False)


class SharesTest(unittest.TestCase):
    def test_e03(self):
        self.assertEqual(told_shares(TWO, 2), ((2, 3), (2, 9)))
        self.assertEqual(undecided(TWO, 2), (1, 9))
        self.assertEqual(lots_behind(TWO, 2), {(0,): (2, 3), (1,): (2, 9), (0, 1): (1, 9)})

    def test_against_all_rows(self):
        for system in any_systems(47, 60, 6) + [ONE, KEPT, CROSS, TWO_LOTS, SWAP]:
            for depth in range(5):
                if len(system.moves) ** depth < 300:
                    shares = {}
                    for row in all_rows(system, depth):
                        lot = lot_by_hand(system, row)
                        shares[lot] = shares.get(lot, 0) + row_worth(system, row)
                    told = [shares.get((state,), 0) for state in range(system.many)]
                    self.assertEqual(lots_behind(system, depth), {lot: pair(share) for lot, share in shares.items()})
                    self.assertEqual(told_shares(system, depth), tuple(pair(share) for share in told))
                    self.assertEqual(undecided(system, depth), pair(1 - sum(told)))

    def test_deep(self):
        for depth in (0, 1, 29, 30):
            self.assertEqual(undecided(TWO, depth), (1, 3 ** depth))
            lots = lots_behind(TWO, depth)
            self.assertEqual(lots[0, 1], (1, 3 ** depth))
            self.assertEqual(sum(worth(share) for share in lots.values()), 1)
            self.assertEqual(told_shares(TWO, depth), tuple(lots.get((state,), (0, 1)) for state in (0, 1)))
            self.assertEqual(lots_behind(SWAP, depth), {(0, 1): (1, 1)})
            self.assertEqual(told_shares(SWAP, depth), ((0, 1), (0, 1)))
            self.assertEqual(undecided(SWAP, depth), (1, 1))
            self.assertEqual(lots_behind(ONE, depth), {(0,): (1, 1)})
            self.assertEqual(told_shares(ONE, depth), ((1, 1),))
            self.assertEqual(undecided(ONE, depth), (0, 1))

    def test_lots_are_one_together(self):
        for system in any_systems(48, 40, 12) + [slow(9), long_system()]:
            for depth in (0, 3, 30):
                lots = lots_behind(system, depth)
                self.assertEqual(sum(worth(share) for share in lots.values()), 1)
                self.assertTrue(all(worth(share) > 0 for share in lots.values()))
                told = told_shares(system, depth)
                self.assertEqual(told, tuple(lots.get((state,), (0, 1)) for state in range(system.many)))
                self.assertEqual(sum(map(worth, told)) + worth(undecided(system, depth)), 1)

    def test_the_dict_is_new(self):
        lots_behind(TWO, 1).clear()
        self.assertEqual(lots_behind(TWO, 1), {(0,): (2, 3), (0, 1): (1, 3)})

    def test_no_numbers(self):
        for depth in odd_things() + [31, 32, 60, 400, (0,), [0], "0", "30"]:
            for asked in (lots_behind, told_shares, undecided, hasty, bias):
                for system in (TWO, SWAP, ONE):
                    self.assertRaises(NoNumber, asked, system, depth)

    def test_the_fourth_step(self):
        for system in any_systems(49, 50, 7) + [TWO, CROSS, slow(4)]:
            spreads = steady_spreads(system)
            told = [[worth(share) for share in told_shares(system, depth)] for depth in range(13)]
            left = [worth(undecided(system, depth)) for depth in range(13)]
            for less, more in zip(told, told[1:]):
                self.assertTrue(all(one <= other for one, other in zip(less, more)))
            for spread in spreads:
                for depth in range(13):
                    lacking = [worth(share) - part for share, part in zip(spread, told[depth])]
                    self.assertTrue(all(part >= 0 for part in lacking))
                    self.assertEqual(sum(lacking), left[depth])
            for one in range(7):
                for other in range(7):
                    self.assertLessEqual(left[one + other], left[one] * left[other])
            if merging_row(system) is not None:
                self.assertEqual(len(spreads), 1)
                row = merging_row(system)
                if len(row) < 13:
                    self.assertLessEqual(left[12], (1 - row_worth(system, row)) ** (12 // len(row) if row else 1))


class DepthForTest(unittest.TestCase):
    def test_around_what_is_undecided(self):
        tiny = Fraction(1, 10 ** 12)
        for system in [TWO, slow(3)] + any_systems(50, 40, 5):
            left = [worth(undecided(system, depth)) for depth in range(31)]
            for share in set(left[:12]):
                for near in (share, share + tiny, share - tiny):
                    if near > 0:
                        expected = next((depth for depth in range(31) if left[depth] <= near), None)
                        self.assertEqual(depth_for(system, pair(near)), expected)

    def test_told_ones(self):
        self.assertEqual(depth_for(TWO, (1, 9)), 2)
        self.assertEqual(depth_for(TWO, (1, 8)), 2)
        self.assertEqual(depth_for(TWO, (1, 10)), 3)
        self.assertEqual(depth_for(TWO, (1, 1)), 0)
        self.assertEqual(depth_for(TWO, (7, 2)), 0)
        self.assertEqual(depth_for(TWO, (999999999999, 1)), 0)
        self.assertEqual(depth_for(TWO, (1, 3 ** 30)), 30)
        self.assertIsNone(depth_for(TWO, (1, 3 ** 30 + 1)))
        self.assertIsNone(depth_for(SWAP, (999999999998, 999999999999)))
        self.assertEqual(depth_for(SWAP, (1, 1)), 0)
        self.assertEqual(depth_for(ONE, (1, 999999999999)), 0)
        # Nothing at all is told in fewer moves than the shortest row that merges has: 25, and 36.
        self.assertEqual(depth_for(slow(6), (999999999998, 999999999999)), 25)
        self.assertIsNone(depth_for(slow(7), (999999999998, 999999999999)))

    def test_no_shares(self):
        for share in (
                (0, 1), (-1, 2), (2, 4), (1, 0), (1, -2), (-1, -2), (1,), (1, 2, 3), [1, 2], 1, 0, "1/2", (True, 2),
                (1, True), (1, None), ((1, 2),), (0, 2), ()):
            for system in (TWO, SWAP, ONE):
                self.assertRaises(NoShare, depth_for, system, share)
        for share in odd_things() + list(with_one_changed((1, 2), odd_things())):
            if not (isinstance(share, tuple) and share in ((1, 10 ** 12 - 1), (10 ** 12 - 1, 2), (1, 10 ** 5000))):
                self.assertRaises(NoShare, depth_for, TWO, share)


class HastyTest(unittest.TestCase):
    def test_e03(self):
        self.assertEqual(hasty(TWO, 1), ((1, 1), (0, 1)))
        self.assertEqual(hasty(TWO, 2), ((3, 4), (1, 4)))
        self.assertEqual(bias(TWO, 1), (1, 4))
        self.assertEqual(bias(TWO, 2), (0, 1))
        self.assertEqual(bias(TWO, 3), (1, 52))

    def test_against_told_shares_and_the_steady_spread(self):
        told_some = 0
        for system in any_systems(51, 80, 8) + [slow(3), slow(6), CROSS, ONE, long_system()]:
            for depth in (0, 1, 2, 5, 30):
                told = [worth(share) for share in told_shares(system, depth)]
                if sum(told) == 0:
                    self.assertRaises(NothingTold, hasty, system, depth)
                    self.assertRaises(NothingTold, bias, system, depth)
                    continue
                told_some += 1
                found = hasty(system, depth)
                self.assertEqual(found, tuple(pair(part / sum(told)) for part in told))
                self.assertEqual(sum(map(worth, found)), 1)
                sizes = [abs(worth(one) - worth(other)) for one, other in zip(found, steady_spreads(system)[0])]
                self.assertEqual(bias(system, depth), pair(sum(sizes) / 2))
        self.assertGreater(told_some, 100)

    def test_nothing_told(self):
        for system in (SWAP, TWO_LOTS, KEPT, CROSS):
            for depth in (0, 1, 30):
                self.assertRaises(NothingTold, hasty, system, depth)
                self.assertRaises(NothingTold, bias, system, depth)
        self.assertRaises(NothingTold, hasty, TWO, 0)
        self.assertRaises(NothingTold, hasty, slow(6), 24)
        self.assertRaises(NothingTold, bias, slow(6), 24)
        # 1 is what the row of 25 moves, of which one alone merges, leads to.
        self.assertEqual(hasty(slow(6), 25), ((0, 1), (1, 1)) + ((0, 1),) * 4)
        self.assertEqual(hasty(ONE, 0), ((1, 1),))
        self.assertEqual(bias(ONE, 0), (0, 1))

    def test_twelve_states_and_many_moves(self):
        chance = random.Random(52)
        system = any_system(chance, 12, 24)
        self.assertIsNotNone(merging_row(system))
        depth = len(merging_row(system))
        self.assertRaises(NothingTold, hasty, system, depth - 1)
        self.assertEqual(sum(map(worth, hasty(system, depth))), 1)


if __name__ == "__main__":
    unittest.main()
