"""Promise 5.1, with 0.2 to 0.5: moves read once, in blocks."""

import random
import unittest
from fractions import Fraction

from asifforever.errors import NoLength, NoNumber, NoRow, NotMerging
from asifforever.merging import merging_row, told_shares, undecided
from asifforever.once import once, once_shares
from asifforever.steady import steady_spreads
from asifforever.systems import System
from things import (
    SWAP, TWO, TWO_LOTS, all_rows, any_row, any_systems, led_by_hand, odd_things, pair, row_worth, slow,
    with_one_changed, worth)

ONE = System(1, (((1, 3), (0,)), ((2, 3), (0,))))
SOME = any_systems(81, 60, 5) + [ONE, TWO, slow(3), slow(4)]


def blocks_of(row, length):
    """The whole blocks of a row."""
    return [row[at:at + length] for at in range(0, len(row) - length + 1, length)]


def once_by_hand(system, length, row):
    """What is told, held or none, block by block."""
    found = ("none",)
    for at, block in enumerate(blocks_of(row, length)):
        ends = led_by_hand(system, block)
        if len(set(ends)) == 1 and found[0] == "held":
            return ("told", found[1], length * (at + 1))
        if len(set(ends)) == 1:
            found = ("held", ends[0], 0)
        elif found[0] == "held":
            found = ("held", ends[found[1]], 0)
    return ("held", found[1], length * (len(row) // length)) if found[0] == "held" else found


def shares_by_hand(system, length, blocks):
    """The shares by which each state is told within so many blocks behind one that merges, of all rows."""
    firsts = [row for row in all_rows(system, length) if len(set(led_by_hand(system, row))) == 1]
    together = sum(row_worth(system, row) for row in firsts)
    told = [Fraction(0)] * system.many
    for first in firsts:
        for row in all_rows(system, length * blocks):
            found = once(system, length, first + row)
            if found[0] == "told":
                told[found[1]] += row_worth(system, first + row) / together
    return tuple(map(pair, told))


class OnceTest(unittest.TestCase):
    def test_e04(self):
        self.assertEqual(once(TWO, 1, (1, 0, 1)), ("told", 1, 3))

    def test_told_ones(self):
        self.assertEqual(once(TWO, 1, (1, 1)), ("told", 0, 2))
        self.assertEqual(once(TWO, 1, (0, 0, 1, 0, 0, 1, 0)), ("told", 0, 6))
        self.assertEqual(once(TWO, 1, (0, 1, 0)), ("held", 1, 3))
        self.assertEqual(once(TWO, 1, (0, 1)), ("held", 0, 2))
        self.assertEqual(once(TWO, 1, (0, 0, 0)), ("none",))
        self.assertEqual(once(TWO, 1, ()), ("none",))
        self.assertEqual(once(TWO, 2, (1,)), ("none",))
        self.assertEqual(once(TWO, 2, (0, 1, 0)), ("held", 0, 2))
        self.assertEqual(once(TWO, 2, (1, 0, 0)), ("held", 1, 2))
        self.assertEqual(once(TWO, 2, (1, 0, 0, 0, 1, 1)), ("told", 1, 6))
        self.assertEqual(once(TWO, 3, (1, 0, 0, 0, 0)), ("held", 0, 3))
        self.assertEqual(once(ONE, 1, (0, 1, 1)), ("told", 0, 2))
        self.assertEqual(once(ONE, 2, (0, 1, 1)), ("held", 0, 2))

    def test_what_is_told_is_what_was_held_not_what_the_block_leads_to(self):
        # Move 2 leads all to 2; 0 and 1 turn: what is held when it comes is told.
        system = System(3, (((1, 3), (1, 2, 0)), ((1, 3), (0, 1, 2)), ((1, 3), (2, 2, 2))))
        self.assertEqual(once(system, 1, (2, 0, 1, 2)), ("told", 0, 4))
        self.assertEqual(once(system, 1, (2, 0, 0, 2)), ("told", 1, 4))
        self.assertEqual(once(system, 2, (0, 2, 0, 0, 1, 2, 0, 0)), ("told", 1, 6))

    def test_against_blocks_by_hand(self):
        chance = random.Random(82)
        kinds = set()
        for system in SOME + any_systems(83, 40, 12) + [SWAP, TWO_LOTS]:
            for length in (1, 2, 3, 5, 19, 20):
                for size in (0, 1, length - 1, length, length + 1, 2 * length, 3 * length + 1, 61, 400):
                    row = any_row(chance, system, size)
                    found = once(system, length, row)
                    kinds.add(found[0])
                    self.assertEqual(found, once_by_hand(system, length, row))
        self.assertEqual(kinds, {"told", "held", "none"})

    def test_what_is_left_is_not_looked_at(self):
        for row in ((0, 0, 1), (0, 0, 0)):
            self.assertEqual(once(TWO, 2, row), ("none",))
        self.assertEqual(once(TWO, 2, (1, 1, 1)), ("held", 0, 2))
        self.assertEqual(once(TWO, 7, (0,) * 399 + (1,)), ("none",))
        self.assertEqual(once(TWO, 20, (0,) * 399 + (1,)), ("held", 0, 400))
        self.assertEqual(once(TWO, 1, (0,) * 398 + (1, 1)), ("told", 0, 400))

    def test_no_lengths(self):
        for length in odd_things() + [0, -1, 21, 22, 400, (1,), [1], "1"]:
            for row in ((0, 1), (), None, (2,), [0]):
                self.assertRaises(NoLength, once, TWO, length, row)
            for blocks in (0, 13, None):
                self.assertRaises(NoLength, once_shares, TWO, length, blocks)
                self.assertRaises(NoLength, once_shares, SWAP, length, blocks)

    def test_no_rows(self):
        for row in odd_things() + list(with_one_changed((0, 1, 0), odd_things())) + [
                [], [0], (2,), (0, -1), (False,), (0, True), "0", 0, None, (0,) * 401, (1, 1, None)]:
            for length in (1, 2, 20):
                self.assertRaises(NoRow, once, TWO, length, row)
        self.assertRaises(NoRow, once, ONE, 1, (2,))


class OnceSharesTest(unittest.TestCase):
    def test_told_ones(self):
        self.assertEqual(once_shares(TWO, 1, 0), ((0, 1), (0, 1)))
        self.assertEqual(once_shares(TWO, 1, 1), ((2, 3), (0, 1)))
        self.assertEqual(once_shares(TWO, 1, 2), ((2, 3), (2, 9)))
        self.assertEqual(once_shares(TWO, 1, 3), ((20, 27), (2, 9)))
        self.assertEqual(once_shares(ONE, 1, 0), ((0, 1),))
        self.assertEqual(once_shares(ONE, 20, 1), ((1, 1),))
        self.assertEqual(once_shares(ONE, 20, 12), ((1, 1),))

    def test_against_all_rows(self):
        tried = 0
        for system in SOME:
            for length, blocks in ((1, 0), (1, 1), (1, 3), (2, 1), (2, 2), (3, 1), (4, 1)):
                if len(system.moves) ** (length * (blocks + 1)) < 700 and sum(map(worth, told_shares(system, length))):
                    tried += 1
                    self.assertEqual(once_shares(system, length, blocks), shares_by_hand(system, length, blocks))
        self.assertGreater(tried, 50)

    def test_the_sixth_step(self):
        tried = 0
        for system in SOME + any_systems(84, 20, 12):
            for length in (1, 2, 4):
                if sum(map(worth, told_shares(system, length))) == 0:
                    continue
                rows = [row for row in all_rows(system, length) if len(set(led_by_hand(system, row))) > 1]
                ways = [(row_worth(system, row), led_by_hand(system, row)) for row in rows]
                now = [worth(share) for share in steady_spreads(system)[0]]
                for blocks in range(13):
                    told = once_shares(system, length, blocks)
                    lacking = [worth(one) - worth(two) for one, two in zip(steady_spreads(system)[0], told)]
                    self.assertEqual(lacking, now)
                    self.assertEqual(sum(lacking), worth(undecided(system, length)) ** blocks)
                    ahead = [Fraction(0)] * system.many
                    for share, ends in ways:
                        for state, other in enumerate(ends):
                            ahead[other] += share * now[state]
                    now = ahead
                tried += 1
        self.assertGreater(tried, 50)

    def test_lengths_and_blocks_at_their_bounds(self):
        for blocks in (0, 12):
            lacking = 1 - sum(map(worth, once_shares(TWO, 20, blocks)))
            self.assertEqual(lacking, Fraction(1, 3 ** (20 * blocks)))
        self.assertEqual(len(merging_row(slow(5))), 16)
        self.assertRaises(NotMerging, once_shares, slow(5), 15, 1)
        self.assertEqual(once_shares(slow(5), 16, 1), told_shares(slow(5), 16))
        self.assertRaises(NotMerging, once_shares, slow(6), 20, 1)

    def test_not_merging(self):
        for system in (SWAP, TWO_LOTS, System(2, (((1, 1), (0, 1)),))):
            for length in (1, 20):
                for blocks in odd_things() + [0, 12, 13]:
                    self.assertRaises(NotMerging, once_shares, system, length, blocks)
        self.assertRaises(NotMerging, once_shares, slow(3), 3, None)

    def test_no_numbers(self):
        for blocks in odd_things() + [13, 14, 60, (0,), [0], "0"]:
            for length in (1, 20):
                self.assertRaises(NoNumber, once_shares, TWO, length, blocks)
                self.assertRaises(NoNumber, once_shares, ONE, length, blocks)


if __name__ == "__main__":
    unittest.main()
