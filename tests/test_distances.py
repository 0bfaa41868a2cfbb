"""Promise 11.1, with 0.2 to 0.5: distances of spreads, and how fast they shrink."""

import random
import unittest
from fractions import Fraction
from math import gcd

from asifforever.distances import depth_within, distance, far_apart, far_from_steady, settles
from asifforever.errors import NoNumber, NoShare, NoSpread, NotOne
from asifforever.merging import undecided
from asifforever.models import sets_apart
from asifforever.renewals import system_of
from asifforever.steady import closed_lots, rounds_of, steady_spreads
from asifforever.systems import System
from things import (
    SWAP, TWO, TWO_LOTS, any_systems, long_system, odd_things, pair, parted, slow, with_one_changed, worth,
    worth_of_steps)

ONE = System(1, (((1, 3), (0,)), ((2, 3), (0,))))
STAY = System(3, (((1, 1), (0, 1, 2)),))
TURN = System(3, (((1, 1), (1, 2, 0)),))
# One closed lot of one state, to which all fall at last.
FALL = System(3, (((1, 2), (0, 0, 1)), ((1, 2), (0, 1, 2))))


def led_move_by_move(table, spread):
    """The spread behind one move more."""
    return [sum(part * table[state][other] for state, part in enumerate(spread)) for other in range(len(spread))]


def starts(many):
    """The spreads that begin in each state."""
    return [[Fraction(int(state == other)) for other in range(many)] for state in range(many)]


def apart_by_hand(one, other):
    """Half the sum of the sizes of the differences."""
    return sum((abs(part - by) for part, by in zip(one, other)), Fraction(0)) / 2


def distances_by_hand(system, most):
    """For each depth the greatest distance of two spreads, and from the steady one, None if it is not the only one."""
    table = worth_of_steps(system)
    steady = [[worth(share) for share in spread] for spread in steady_spreads(system)]
    rows = starts(system.many)
    found = []
    for _ in range(most + 1):
        apart = max(apart_by_hand(one, other) for one in rows for other in rows)
        far = max(apart_by_hand(row, steady[0]) for row in rows) if len(steady) == 1 else None
        found.append((pair(apart), None if far is None else pair(far)))
        rows = [led_move_by_move(table, row) for row in rows]
    return found


def settles_by_hand(system):
    """Whether behind some number of moves, the same for all, one state is reached from all."""
    reached = [{state} for state in range(system.many)]
    seen = []
    while reached not in seen:
        if set.intersection(*reached):
            return True
        seen.append(reached)
        reached = [{leads[state] for state in lot for _, leads in system.moves} for lot in reached]
    return False


class DistanceTest(unittest.TestCase):
    def test_told_ones(self):
        half, none, whole = (1, 2), (0, 1), (1, 1)
        self.assertEqual(distance(2, (half, half), (whole, none)), half)
        self.assertEqual(distance(2, (none, whole), (whole, none)), whole)
        self.assertEqual(distance(2, ((1, 3), (2, 3)), ((1, 3), (2, 3))), none)
        self.assertEqual(distance(3, ((1, 2), (1, 3), (1, 6)), ((1, 4), (1, 4), half)), (1, 3))
        self.assertEqual(distance(1, (whole,), (whole,)), none)

    def test_against_the_words(self):
        chance = random.Random(261)
        for _ in range(200):
            many = chance.randint(1, 12)
            one, other = parted(chance, many), parted(chance, many)
            found = apart_by_hand([worth(share) for share in one], [worth(share) for share in other])
            self.assertEqual(distance(many, one, other), pair(found))
            self.assertEqual(distance(many, other, one), pair(found))
            self.assertEqual(distance(many, one, one), (0, 1))

    def test_no_spread(self):
        good = ((1, 2), (1, 2))
        for spread in (
                (), ((1, 1),), ((1, 2), (1, 3)), ((1, 2), (1, 2), (0, 1)), [(1, 2), (1, 2)], ((2, 4), (1, 2)),
                ((3, 2), (-1, 2)), (1, 0), ((1, 1), 0), ((True, 1), (0, 1)), None, "", 0, {}):
            self.assertRaises(NoSpread, distance, 2, spread, good)
            self.assertRaises(NoSpread, distance, 2, good, spread)
            self.assertRaises(NoSpread, distance, 2, spread, spread)
        for spread in odd_things() + list(with_one_changed(good, odd_things())):
            self.assertRaises(NoSpread, distance, 2, spread, good)
            self.assertRaises(NoSpread, distance, 2, good, spread)


class FarTest(unittest.TestCase):
    def test_e07(self):
        self.assertEqual(far_apart(TWO, 1), (1, 3))

    def test_told_ones(self):
        self.assertEqual([far_apart(TWO, depth) for depth in range(4)], [(1, 1), (1, 3), (1, 9), (1, 27)])
        self.assertEqual([far_from_steady(TWO, depth) for depth in range(3)], [(3, 4), (1, 4), (1, 12)])
        self.assertEqual([far_apart(SWAP, depth) for depth in (0, 1, 60)], [(1, 1)] * 3)
        self.assertEqual([far_from_steady(SWAP, depth) for depth in (0, 1, 60)], [(1, 2)] * 3)
        self.assertEqual([far_from_steady(TURN, depth) for depth in (0, 1, 60)], [(2, 3)] * 3)
        self.assertEqual([far_apart(STAY, depth) for depth in (0, 60)], [(1, 1)] * 2)
        self.assertEqual(far_from_steady(FALL, 0), (1, 1))
        self.assertEqual(far_from_steady(FALL, 2), (3, 4))
        for depth in (0, 1, 60):
            self.assertEqual(far_apart(ONE, depth), (0, 1))
            self.assertEqual(far_from_steady(ONE, depth), (0, 1))

    def test_against_the_words(self):
        for system in any_systems(262, 60, 5) + [TWO, SWAP, TWO_LOTS, STAY, TURN, FALL, slow(4), slow(12)]:
            for depth, (apart, far) in enumerate(distances_by_hand(system, 8)):
                self.assertEqual(far_apart(system, depth), apart)
                if far is None:
                    self.assertRaises(NotOne, far_from_steady, system, depth)
                else:
                    self.assertEqual(far_from_steady(system, depth), far)

    def test_depth_60(self):
        for system in any_systems(263, 8, 4) + [slow(12)]:
            apart, far = distances_by_hand(system, 60)[60]
            self.assertEqual(far_apart(system, 60), apart)
            if far is not None:
                self.assertEqual(far_from_steady(system, 60), far)

    def test_very_long_shares(self):
        system = long_system()
        for depth in (0, 1, 60):
            apart = far_apart(system, depth)
            far = far_from_steady(system, depth)
            self.assertLessEqual(worth(far), worth(apart))
            self.assertEqual([gcd(*apart), gcd(*far)], [1, 1])

    def test_no_number(self):
        for depth in odd_things() + [61, 62, 1000, -1, "3", (3,), [3], (1, 1)]:
            for system in (TWO, TWO_LOTS, ONE):
                self.assertRaises(NoNumber, far_apart, system, depth)
                # Ahead of NotOne.
                self.assertRaises(NoNumber, far_from_steady, system, depth)

    def test_not_one(self):
        for system in (TWO_LOTS, STAY):
            for depth in (0, 1, 60):
                self.assertRaises(NotOne, far_from_steady, system, depth)

    def test_the_fifteenth_step(self):
        for system in any_systems(264, 60, 5) + [TWO, SWAP, slow(4)]:
            apart = [worth(far_apart(system, depth)) for depth in range(10)]
            for depth in range(10):
                self.assertLessEqual(apart[depth], worth(undecided(system, depth)))
                for more in range(10 - depth):
                    self.assertLessEqual(apart[depth + more], apart[depth] * apart[more])
            if len(closed_lots(system)) == 1:
                far = [worth(far_from_steady(system, depth)) for depth in range(10)]
                self.assertEqual(far, sorted(far, reverse=True))
                for depth in range(10):
                    self.assertLessEqual(far[depth], apart[depth])


class SettlesTest(unittest.TestCase):
    def test_told_ones(self):
        for system, found in (
                (TWO, True), (SWAP, False), (TWO_LOTS, False), (ONE, True), (STAY, False), (TURN, False), (FALL, True),
                (slow(5), True), (system_of(sets_apart(2, ((0, 1),), 1)), True)):
            self.assertIs(settles(system), found)

    def test_against_lots_and_against_one_state_reached_from_all(self):
        counted = [0, 0]
        for system in any_systems(265, 300, 6):
            lots = closed_lots(system)
            found = settles(system)
            self.assertIs(found, len(lots) == 1 and rounds_of(system, lots[0]) == 1)
            self.assertIs(found, settles_by_hand(system))
            counted[found] += 1
        self.assertGreater(min(counted), 30)

    def test_one_lot_with_more_rounds(self):
        # States outside the lot fall into it, and still go round with it.
        system = System(4, (((1, 2), (1, 0, 0, 1)), ((1, 2), (1, 0, 3, 2))))
        self.assertEqual(closed_lots(system), [(0, 1)])
        self.assertIs(settles(system), False)


class DepthWithinTest(unittest.TestCase):
    def test_told_ones(self):
        self.assertEqual(depth_within(TWO, (3, 4)), 0)
        self.assertEqual(depth_within(TWO, (5, 1)), 0)
        self.assertEqual(depth_within(TWO, (1, 4)), 1)
        self.assertEqual(depth_within(TWO, (249999999999, 10 ** 12)), 2)
        self.assertEqual(depth_within(ONE, (1, 10 ** 12 - 1)), 0)
        self.assertEqual(depth_within(SWAP, (1, 2)), 0)
        self.assertIsNone(depth_within(SWAP, (499999999999, 10 ** 12)))
        self.assertIsNone(depth_within(TURN, (1, 3)))

    def test_just_at_just_above_just_below(self):
        tiny = Fraction(1, 10 ** 40)
        for system in any_systems(266, 40, 4) + [TWO, SWAP, slow(4)]:
            if len(closed_lots(system)) == 1:
                far = [worth(far_from_steady(system, depth)) for depth in range(61)]
                for depth in (0, 1, 2, 7, 59, 60):
                    for share in (far[depth], far[depth] + tiny, far[depth] - tiny):
                        if share > 0:
                            found = [at for at in range(61) if far[at] <= share]
                            self.assertEqual(depth_within(system, pair(share)), min(found) if found else None)

    def test_no_share(self):
        for share in odd_things() + [
                (0, 1), (-1, 2), (2, 4), (1, 0), (1, -2), (1,), [1, 2], (1, 2, 3), 1, "1/2", (True, 2), (1, None)]:
            if share not in ((1, 10 ** 12 - 1), (1, 10 ** 5000)):
                for system in (TWO, TWO_LOTS):
                    self.assertRaises(NoShare, depth_within, system, share)

    def test_not_one(self):
        for system in (TWO_LOTS, STAY):
            self.assertRaises(NotOne, depth_within, system, (1, 2))
            self.assertRaises(NoShare, depth_within, system, (0, 1))


if __name__ == "__main__":
    unittest.main()
