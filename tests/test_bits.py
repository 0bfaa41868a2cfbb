"""Promise 6.1, with 0.2 to 0.5: bits that tell moves."""

import random
import unittest
from fractions import Fraction
from itertools import product

from asifforever.bits import drawn_by_bits, move_by_bits, open_by_bits, told_by_bits
from asifforever.drawing import drawn
from asifforever.errors import NoBits, NoNumber, NoPlan
from asifforever.systems import System, share_of
from things import (
    SWAP, TWO, TWO_LOTS, all_rows, any_system, any_systems, long_system, odd_things, pair, slow, with_one_changed, worth)

ONE = System(1, (((1, 3), (0,)), ((2, 3), (0,))))


def of_shares(*shares):
    """A system of two states with moves of these shares: the first turns, each other one leads all to a state."""
    moves = [(share, (1, 0) if at == 0 else (at % 2, at % 2)) for at, share in enumerate(shares)]
    return System(2, tuple(moves))


HALVES = of_shares((1, 2), (1, 2))
# Powers of one half, in an order in which each begins and ends at a whole part.
WHOLE = of_shares((1, 4), (1, 8), (1, 8), (1, 2))
# Powers of one half whose stretches do not: the first half is parted 1/8, 1/4, 1/8.
BROKEN = of_shares((1, 8), (1, 4), (1, 8), (1, 2))
THIRDS = of_shares((1, 3), (1, 3), (1, 3))
TINY = of_shares((1, 999999999999), (999999999998, 999999999999))
SOME = [HALVES, WHOLE, BROKEN, THIRDS, TINY, TWO, ONE, SWAP, TWO_LOTS] + any_systems(91, 30, 4)


def stretches(system):
    """The stretches of the moves, one behind another."""
    found = []
    low = Fraction(0)
    for share, _ in system.moves:
        found.append((low, low + worth(share)))
        low += worth(share)
    return found


def move_by_hand(system, bits):
    """The move that bits tell, and by how many of them, by stretches of Fractions."""
    low = Fraction(0)
    size = Fraction(1)
    for many, bit in enumerate(bits, 1):
        size /= 2
        low += bit * size
        for move, (begin, end) in enumerate(stretches(system)):
            if begin <= low and low + size <= end:
                return (move, many)
    return None


def shares_by_hand(system, many):
    """The shares of the rows of so many bits that tell each move, of all rows."""
    counted = [0] * len(system.moves)
    for bits in product((0, 1), repeat=many):
        found = move_by_hand(system, bits)
        if found is not None:
            counted[found[0]] += 1
    return [Fraction(count, 2 ** many) for count in counted]


class MoveByBitsTest(unittest.TestCase):
    def test_e04(self):
        self.assertEqual(move_by_bits(TWO, (0, 0, 1)), (0, 2))

    def test_told_ones(self):
        self.assertEqual(move_by_bits(TWO, (0, 0)), (0, 2))
        self.assertEqual(move_by_bits(TWO, (1,)), (1, 1))
        self.assertEqual(move_by_bits(TWO, (1, 0, 0)), (1, 1))
        self.assertIsNone(move_by_bits(TWO, (0,)))
        self.assertIsNone(move_by_bits(TWO, (0, 1)))
        self.assertEqual(move_by_bits(TWO, (0, 1, 1)), (1, 3))
        self.assertEqual(move_by_bits(TWO, (0, 1, 0, 0)), (0, 4))
        self.assertIsNone(move_by_bits(TWO, ()))

    def test_ends_that_touch(self):
        self.assertEqual(move_by_bits(HALVES, (0,)), (0, 1))
        self.assertEqual(move_by_bits(HALVES, (1, 0)), (1, 1))
        for bits, found in (
                ((0, 0), (0, 2)), ((0, 1, 0), (1, 3)), ((0, 1, 1), (2, 3)), ((1,), (3, 1)), ((0, 1), None), ((0,), None)):
            self.assertEqual(move_by_bits(WHOLE, bits), found)
        for bits, found in (
                ((0, 0, 0), (0, 3)), ((0, 0, 1), (1, 3)), ((0, 1, 0), (1, 3)), ((0, 1, 1), (2, 3)), ((1,), (3, 1)),
                ((0, 0), None), ((0, 1), None)):
            self.assertEqual(move_by_bits(BROKEN, bits), found)

    def test_one_move_alone(self):
        self.assertIsNone(move_by_bits(SWAP, ()))
        self.assertEqual(move_by_bits(SWAP, (0,)), (0, 1))
        self.assertEqual(move_by_bits(SWAP, (1, 1, 1)), (0, 1))

    def test_against_all_rows(self):
        for system in SOME:
            for many in range(8):
                for bits in product((0, 1), repeat=many):
                    self.assertEqual(move_by_bits(system, bits), move_by_hand(system, bits))

    def test_long_rows(self):
        chance = random.Random(92)
        systems = SOME + [long_system(), slow(12), any_system(chance, 12, 24), any_system(chance, 3, 24)]
        for system in systems:
            for bits in ((0,) * 200, (1,) * 200, (0, 1) * 100, (1, 0) * 100, (0,) * 199 + (1,), (1,) * 199 + (0,)):
                for many in (200, 199, 40, 39, 38):
                    self.assertEqual(move_by_bits(system, bits[:many]), move_by_hand(system, bits[:many]))
        # 1/3 is 0.0101.. in bits: it is never left for one side.
        self.assertIsNone(move_by_bits(TWO, (0, 1) * 100))
        self.assertEqual(move_by_bits(TWO, (0, 1) * 99 + (0, 0)), (0, 200))
        self.assertEqual(move_by_bits(TWO, (0, 1) * 99 + (1, 0)), (1, 199))
        self.assertEqual(move_by_bits(TINY, (0,) * 200), (0, 40))
        self.assertIsNone(move_by_bits(TINY, (0,) * 39))
        self.assertEqual(move_by_bits(TINY, (0,) * 38 + (1,)), (1, 39))

    def test_no_bits(self):
        for bits in (
                [], [0], [0, 1], (2,), (0, 2), (-1,), (True,), (False,), (0, True), (False, 1), ("0",), "01", b"\x00\x01",
                b"01", 0, 1, None, {0: 0}, ((0,),), (0,) * 201, (1,) * 400, (0,) * 20000, (1, 0, None)):
            for system in (TWO, ONE, SWAP):
                self.assertRaises(NoBits, move_by_bits, system, bits)
                self.assertRaises(NoBits, drawn_by_bits, system, bits, "one")
                self.assertRaises(NoBits, drawn_by_bits, system, bits, "two")
        for bits in odd_things() + list(with_one_changed((0, 1, 0), odd_things())):
            self.assertRaises(NoBits, move_by_bits, TWO, bits)
            self.assertRaises(NoBits, drawn_by_bits, TWO, bits, None)


class ToldByBitsTest(unittest.TestCase):
    def test_against_all_rows(self):
        for system in SOME:
            for many in range(8):
                told = shares_by_hand(system, many)
                self.assertEqual(told_by_bits(system, many), tuple(map(pair, told)))
                self.assertEqual(open_by_bits(system, many), pair(1 - sum(told)))
        for many in (10, 11):
            self.assertEqual(told_by_bits(THIRDS, many), tuple(map(pair, shares_by_hand(THIRDS, many))))

    def test_no_bits_and_forty(self):
        for system in SOME:
            self.assertEqual(told_by_bits(system, 0), ((0, 1),) * len(system.moves))
            self.assertEqual(open_by_bits(system, 0), (1, 1))
        self.assertEqual(told_by_bits(SWAP, 1), ((1, 1),))
        self.assertEqual(open_by_bits(SWAP, 40), (0, 1))
        self.assertEqual(open_by_bits(TWO, 40), (1, 2 ** 40))
        self.assertEqual(told_by_bits(TWO, 40), (pair(Fraction(2 ** 40 // 3, 2 ** 40)), pair(1 - Fraction(
            2 ** 40 // 3 + 1, 2 ** 40))))
        self.assertEqual(open_by_bits(WHOLE, 3), (0, 1))
        self.assertEqual(open_by_bits(WHOLE, 2), (1, 4))
        self.assertEqual(open_by_bits(BROKEN, 2), (1, 2))
        self.assertEqual(told_by_bits(WHOLE, 40), ((1, 4), (1, 8), (1, 8), (1, 2)))
        self.assertEqual(told_by_bits(TINY, 39), ((0, 1), (2 ** 39 - 1, 2 ** 39)))
        self.assertEqual(told_by_bits(TINY, 40), ((1, 2 ** 40), (2 ** 39 - 1, 2 ** 39)))

    def test_the_seventh_step(self):
        chance = random.Random(93)
        for system in SOME + [long_system(), any_system(chance, 12, 24)]:
            last = [Fraction(0)] * len(system.moves)
            for many in range(41):
                told = [worth(share) for share in told_by_bits(system, many)]
                for (share, _), less, more in zip(system.moves, last, told):
                    self.assertLessEqual(less, more)
                    self.assertLessEqual(more, worth(share))
                left = worth(open_by_bits(system, many))
                self.assertEqual(sum(told) + left, 1)
                self.assertLessEqual(left, Fraction(len(system.moves), 2 ** many))
                last = told

    def test_rows_of_moves_have_their_shares(self):
        # By shares of at most three bits each, nine bits tell three moves, each row with just its share.
        for system in (HALVES, WHOLE, BROKEN, SWAP):
            shares = {}
            for bits in product((0, 1), repeat=9):
                row = ()
                while len(row) < 3:
                    move, many = move_by_bits(system, bits)
                    row += (move,)
                    bits = bits[many:]
                shares[row] = shares.get(row, 0) + Fraction(1, 2 ** 9)
            self.assertEqual(shares, {row: worth(share_of(system, row)) for row in all_rows(system, 3)})

    def test_no_numbers(self):
        for many in odd_things() + [41, 42, 60, 200, (0,), [0], "0"]:
            for system in (TWO, SWAP, ONE):
                self.assertRaises(NoNumber, told_by_bits, system, many)
                self.assertRaises(NoNumber, open_by_bits, system, many)


class DrawnByBitsTest(unittest.TestCase):
    def test_told_ones(self):
        self.assertEqual(drawn_by_bits(TWO, (0, 0, 1, 0, 0), "one"), (("told", 1, 2), 5))
        self.assertEqual(drawn_by_bits(TWO, (0, 0, 1, 0, 1), "one"), (("told", 1, 2), 3))
        self.assertEqual(drawn_by_bits(TWO, (0, 0), "one"), (("undecided", (0, 1), 1), 2))
        self.assertEqual(drawn_by_bits(TWO, (0, 1), "one"), (("undecided", (0, 1), 0), 0))
        self.assertEqual(drawn_by_bits(TWO, (), "double"), (("undecided", (0, 1), 0), 0))
        # All the coins that the bits tell are read, also those that no look needs.
        self.assertEqual(drawn_by_bits(TWO, (1,) * 200, "one"), (("told", 0, 1), 200))
        self.assertEqual(drawn_by_bits(TWO, (0, 0) * 2 + (1,) * 3 + (0,), "double"), (("told", 0, 4), 7))
        self.assertEqual(drawn_by_bits(ONE, (0, 1), "one"), (("told", 0, 0), 0))
        self.assertEqual(drawn_by_bits(SWAP, (0,) * 200, "double"), (("undecided", (0, 1), 128), 200))

    def test_against_coins_read_one_behind_another(self):
        chance = random.Random(94)
        for system in SOME + [long_system(), slow(5), any_system(chance, 12, 24)]:
            for size in (0, 1, 2, 3, 5, 17, 60, 200):
                bits = tuple(chance.randrange(2) for _ in range(size))
                coins = []
                taken = 0
                while move_by_hand(system, bits[taken:]) is not None:
                    move, many = move_by_hand(system, bits[taken:])
                    coins.append(move)
                    taken += many
                for plan in ("one", "double"):
                    found = (drawn(system, tuple(coins), plan), taken)
                    self.assertEqual(drawn_by_bits(system, bits, plan), found)

    def test_no_plans(self):
        for plan in odd_things() + ["One", "one ", "two", ("one",), ["double"], b"one", 1]:
            for bits in ((), (0, 1), (1,) * 200):
                self.assertRaises(NoPlan, drawn_by_bits, TWO, bits, plan)
                self.assertRaises(NoPlan, drawn_by_bits, ONE, bits, plan)


if __name__ == "__main__":
    unittest.main()
