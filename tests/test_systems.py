"""Promises 1.1 and 1.2, with 0.2 to 0.5: systems, rows, spreads and steps."""

import random
import unittest
from fractions import Fraction

from asifforever.errors import BadSystem, NoNumber, NoRow, NoSpread, NoState
from asifforever.systems import (
    System, is_spread, led, led_all, lot_behind, share_of, spread_behind, steps)
from things import (
    SWAP, TWO, TWO_LOTS, any_systems, long_system, odd_things, pair, parted, with_one_changed, worth, worth_of_steps)

HALF = (1, 2)
WHOLE = (1, 1)


def part_of(many, moves):
    """What BadSystem tells of these, None if they make a system."""
    try:
        System(many, moves)
    except BadSystem as wrong:
        return wrong.part
    return None


def is_move_by_hand(many, move):
    """Whether this is a move, told in another way than the package does."""
    if type(move) is not tuple or len(move) != 2 or type(move[0]) is not tuple or type(move[1]) is not tuple:
        return False
    share, leads = move
    if [type(part) for part in share] != [int, int] or share[1] <= 0 or pair(worth(share)) != share or share[0] <= 0:
        return False
    return [type(state) for state in leads] == [int] * many and all(0 <= state < many for state in leads)


def part_by_hand(many, moves):
    """What BadSystem must tell of a tuple of moves, or None."""
    for number, move in enumerate(moves):
        if not is_move_by_hand(many, move):
            return number
    return None if sum(worth(share) for share, _ in moves) == 1 else "shares"


def even_moves(count, many):
    """So many moves that keep all states, of equal shares."""
    return tuple((pair(Fraction(1, count)), tuple(range(many))) for _ in range(count))


class SystemTest(unittest.TestCase):
    def test_attributes(self):
        moves = (((1, 3), (1, 0)), ((2, 3), (0, 0)))
        self.assertEqual(TWO.many, 2)
        self.assertEqual(TWO.moves, moves)
        self.assertIs(type(TWO.moves), tuple)

    def test_bounds_of_states(self):
        for many in (1, 2, 11, 12):
            self.assertIsNone(part_of(many, even_moves(1, many)))
        for many in (0, 13, -1, 100):
            self.assertEqual(part_of(many, even_moves(1, max(many, 0))), "many")

    def test_bounds_of_moves(self):
        for count in (1, 2, 23, 24):
            self.assertIsNone(part_of(3, even_moves(count, 3)))
        for count in (25, 26, 400):
            self.assertEqual(part_of(3, even_moves(count, 3)), "moves")
        self.assertEqual(part_of(3, ()), "moves")

    def test_flags_are_no_integers(self):
        self.assertEqual(part_of(True, (((1, 1), (0,)),)), "many")
        self.assertEqual(part_of(1, (((1, True), (0,)),)), 0)
        self.assertEqual(part_of(1, (((True, 1), (0,)),)), 0)
        self.assertEqual(part_of(1, (((1, 1), (False,)),)), 0)
        self.assertEqual(part_of(2, (((1, 1), (True, 0)),)), 0)

    def test_lists_are_no_tuples(self):
        self.assertEqual(part_of(2, [(WHOLE, (0, 1))]), "moves")
        self.assertEqual(part_of(2, ([WHOLE, (0, 1)],)), 0)
        self.assertEqual(part_of(2, (([1, 1], (0, 1)),)), 0)
        self.assertEqual(part_of(2, ((WHOLE, [0, 1]),)), 0)

    def test_the_first_wrong_move_is_told(self):
        good = (HALF, (0, 1))
        wrong = [
            (), (HALF,), (HALF, (0, 1), 0), ((2, 4), (0, 1)), ((-1, -2), (0, 1)), ((0, 1), (0, 1)), ((-1, 2), (0, 1)),
            ((1, -2), (0, 1)), ((1, 0), (0, 1)), ((0, 0), (0, 1)), ((1,), (0, 1)), ((1, 2, 1), (0, 1)), (1, (0, 1)),
            (HALF, ()), (HALF, (0,)), (HALF, (0, 1, 0)), (HALF, (0, 2)), (HALF, (-1, 0)), (HALF, 0), (HALF, "01")]
        for move in wrong:
            self.assertEqual(part_of(2, (move,)), 0, move)
            self.assertEqual(part_of(2, (good, move)), 1, move)
            self.assertEqual(part_of(2, (good, move, move)), 1, move)
            self.assertEqual(part_of(2, (good, good, good, move, good)), 3, move)

    def test_shares_together(self):
        self.assertEqual(part_of(1, ((HALF, (0,)),)), "shares")
        self.assertEqual(part_of(1, ((HALF, (0,)),) * 3), "shares")
        self.assertEqual(part_of(1, (((2, 1), (0,)),)), "shares")
        self.assertEqual(part_of(1, ((HALF, (0,)), ((1, 3), (0,)))), "shares")
        self.assertEqual(part_of(1, ((HALF, (0,)), ((499999999999, 999999999999), (0,)))), "shares")
        self.assertIsNone(part_of(1, ((HALF, (0,)), ((1, 3), (0,)), ((1, 6), (0,)))))

    def test_two_parts_wrong_at_once(self):
        self.assertEqual(part_of(0, ()), "many")
        self.assertEqual(part_of(13, None), "many")
        self.assertEqual(part_of(None, (None,)), "many")
        self.assertEqual(part_of(2, (None,) * 25), "moves")
        self.assertEqual(part_of(2, (None, (HALF, (0, 1)))), 0)
        self.assertEqual(part_of(2, ((HALF, (0, 1)), None)), 1)
        self.assertEqual(part_of(2, ((WHOLE, (0, 1)), (WHOLE, (0, 1)), (WHOLE, (0, 2)))), 2)

    def test_anything_may_be_passed(self):
        for thing in odd_things():
            self.assertEqual(part_of(thing, TWO.moves), "many")
            expected = "moves"
            if isinstance(thing, tuple) and 1 <= len(thing) <= 24:
                expected = 0
            self.assertEqual(part_of(2, thing), expected)
            self.assertEqual(part_of(2, (thing,)), 0)
            self.assertEqual(part_of(2, (TWO.moves[0], thing)), 1)

    def test_anything_may_stand_inside(self):
        for moves in with_one_changed(TWO.moves, odd_things()):
            self.assertEqual(part_of(2, moves), part_by_hand(2, moves))

    def test_equality(self):
        same = System(2, (((1, 3), (1, 0)), ((2, 3), (0, 0))))
        self.assertTrue(TWO == same)
        self.assertFalse(TWO != same)
        for other in (
                System(2, (((2, 3), (0, 0)), ((1, 3), (1, 0)))), System(2, (((1, 2), (1, 0)), ((1, 2), (0, 0)))),
                System(2, (((1, 3), (1, 1)), ((2, 3), (0, 0)))), System(1, ((WHOLE, (0,)),)), SWAP):
            self.assertFalse(TWO == other)
            self.assertTrue(TWO != other)

    def test_equal_to_nothing_of_another_class(self):
        class Alike:
            many = TWO.many
            moves = TWO.moves

            def __eq__(self, other):
                return True

        for thing in odd_things() + [(TWO.many, TWO.moves), 2, Alike()]:
            if thing is not TWO:
                self.assertFalse(TWO == thing)
                self.assertTrue(TWO != thing)


class RowTest(unittest.TestCase):
    def test_moves_are_done_one_behind_another(self):
        self.assertEqual(led(TWO, (0, 1, 0), 0), 1)
        self.assertEqual(led(TWO, (0, 1), 0), 0)
        self.assertEqual(led_all(TWO, (0,)), (1, 0))
        self.assertEqual(led_all(TWO, (1, 0)), (1, 1))
        self.assertEqual(led_all(TWO, (0, 1)), (0, 0))
        self.assertEqual(lot_behind(TWO, (0,)), (0, 1))
        self.assertEqual(lot_behind(TWO, (1, 0)), (1,))
        self.assertEqual(share_of(TWO, (1, 0, 1)), (4, 27))

    def test_order_matters(self):
        system = System(3, ((HALF, (1, 2, 2)), (HALF, (0, 0, 1))))
        self.assertEqual(led_all(system, (0, 1)), (0, 1, 1))
        self.assertEqual(led_all(system, (1, 0)), (1, 1, 2))
        self.assertEqual(lot_behind(system, (0, 0)), (2,))
        self.assertEqual(lot_behind(system, (0, 1)), (0, 1))

    def test_many_rows_against_one_move_at_a_time(self):
        chance = random.Random(3)
        for system in any_systems(1, 60, 12):
            row = tuple(chance.randrange(len(system.moves)) for _ in range(chance.randrange(30)))
            ends = []
            for state in range(system.many):
                for move in row:
                    state = system.moves[move][1][state]
                ends.append(state)
            share = Fraction(1)
            for move in row:
                share *= worth(system.moves[move][0])
            self.assertEqual(led_all(system, row), tuple(ends))
            self.assertEqual([led(system, row, state) for state in range(system.many)], ends)
            self.assertEqual(lot_behind(system, row), tuple(sorted(set(ends))))
            self.assertEqual(share_of(system, row), pair(share))

    def test_empty_row(self):
        self.assertEqual(led(TWO, (), 1), 1)
        self.assertEqual(led_all(TWO_LOTS, ()), (0, 1, 2, 3))
        self.assertEqual(lot_behind(TWO_LOTS, ()), (0, 1, 2, 3))
        self.assertEqual(share_of(TWO, ()), (1, 1))

    def test_shares_are_in_lowest_terms(self):
        system = System(1, (((2, 3), (0,)), ((1, 4), (0,)), ((1, 12), (0,))))
        self.assertEqual(share_of(system, (0, 1)), (1, 6))
        self.assertEqual(share_of(SWAP, (0,) * 400), (1, 1))

    def test_lengths(self):
        for length in (0, 1, 399, 400):
            row = (0,) * length
            self.assertEqual(led(TWO, row, 0), length % 2)
            self.assertEqual(led_all(TWO, row), (length % 2, 1 - length % 2))
            self.assertEqual(lot_behind(TWO, row), (0, 1))
            self.assertEqual(share_of(TWO, row), (1, 3 ** length))
        for length in (401, 402, 20000):
            self.assert_no_row(TWO, (0,) * length)

    def assert_no_row(self, system, row):
        self.assertRaises(NoRow, led, system, row, 0)
        self.assertRaises(NoRow, led_all, system, row)
        self.assertRaises(NoRow, lot_behind, system, row)
        self.assertRaises(NoRow, share_of, system, row)

    def test_no_rows(self):
        for row in ([], [0], (2,), (-1,), (0, 2), (0, True), (False,), ("0",), ((0,),), 0, "", "0", None, {0: 0}):
            self.assert_no_row(TWO, row)
        for row in with_one_changed((0, 1, 0), odd_things()):
            self.assert_no_row(TWO, row)
        for row in odd_things():
            self.assert_no_row(TWO, row)

    def test_no_states(self):
        for state in odd_things() + [2, 3, 12, (0,), [0], "0"]:
            self.assertRaises(NoState, led, TWO, (0,), state)
        self.assertRaises(NoState, led, System(1, ((WHOLE, (0,)),)), (), 1)

    def test_the_row_is_looked_at_first(self):
        self.assertRaises(NoRow, led, TWO, (2,), 2)
        self.assertRaises(NoRow, led, TWO, [], None)

    def test_nothing_is_changed(self):
        row = (0, 1, 0)
        before = (TWO.many, TWO.moves)
        for _ in range(2):
            self.assertEqual(led_all(TWO, row), (1, 1))
        self.assertEqual((TWO.many, TWO.moves, row), before + ((0, 1, 0),))


class SpreadTest(unittest.TestCase):
    def test_spreads(self):
        for many, thing in (
                (1, ((1, 1),)), (2, ((1, 1), (0, 1))), (2, ((1, 3), (2, 3))), (3, ((1, 2), (1, 3), (1, 6))),
                (12, ((1, 12),) * 12), (2, ((1, 999999999999), (999999999998, 999999999999)))):
            self.assertIs(is_spread(many, thing), True)

    def test_no_spreads_by_one_item_each(self):
        for thing in (
                (), ((1, 3),), ((1, 3), (2, 3), (0, 1)), ((1, 3), (1, 3)), ((2, 3), (2, 3)), ((1, 3), (4, 6)),
                ((1, 3), (-2, -3)), ((4, 3), (-1, 3)), ((1, 1), (0, 2)), ((1, 1), (0, 0)), ((1, 1), 0), ((1, 1), (0,)),
                ((1, 1), (0, 1, 1)), [(1, 3), (2, 3)], ((1, 3), [2, 3]), ((True, 1), (0, 1)), ((1, 1), (0, True)),
                ((1, 1), (False, 1)), ((1, 1), None), ((1, 0), (0, 1))):
            self.assertIs(is_spread(2, thing), False, thing)
            self.assertRaises(NoSpread, spread_behind, TWO, thing, 0)

    def test_lengths(self):
        for many in range(1, 13):
            thing = ((1, many),) * many
            for other in range(1, 14):
                self.assertIs(is_spread(other, thing), other == many)

    def test_anything_may_be_judged(self):
        good = ((1, 3), (2, 3))
        things = odd_things()
        for thing in things + list(with_one_changed(good, things)):
            self.assertIs(is_spread(2, thing), False)
            self.assertRaises(NoSpread, spread_behind, TWO, thing, 1)
        for thing in things:
            self.assertIs(is_spread(1, thing), False)

    def test_many_parted(self):
        chance = random.Random(5)
        for _ in range(200):
            many = chance.randint(1, 12)
            thing = parted(chance, many)
            self.assertIs(is_spread(many, thing), True)
            at = chance.randrange(many)
            other = pair(worth(thing[at]) + Fraction(chance.choice((1, -1)), 10 ** 11))
            self.assertIs(is_spread(many, thing[:at] + (other,) + thing[at + 1:]), False)


class StepsTest(unittest.TestCase):
    def test_e01(self):
        self.assertEqual(steps(TWO), (((2, 3), (1, 3)), ((1, 1), (0, 1))))

    def test_several_moves_to_one_state(self):
        system = System(3, (((1, 6), (1, 1, 2)), ((1, 3), (1, 0, 2)), ((1, 2), (2, 1, 2))))
        expected = (((0, 1), (1, 2), (1, 2)), ((1, 3), (2, 3), (0, 1)), ((0, 1), (0, 1), (1, 1)))
        self.assertEqual(steps(system), expected)
        self.assertEqual(spread_behind(system, ((1, 1), (0, 1), (0, 1)), 1), expected[0])
        self.assertEqual(spread_behind(system, ((1, 1), (0, 1), (0, 1)), 2), ((1, 6), (1, 3), (1, 2)))

    def test_one_state(self):
        self.assertEqual(steps(System(1, ((HALF, (0,)), (HALF, (0,))))), (((1, 1),),))

    def test_many_systems(self):
        for system in any_systems(2, 60, 12):
            expected = tuple(tuple(pair(share) for share in row) for row in worth_of_steps(system))
            self.assertEqual(steps(system), expected)
            for row in steps(system):
                self.assertIs(is_spread(system.many, row), True)

    def test_spread_behind_against_step_by_step(self):
        chance = random.Random(8)
        for system in any_systems(9, 40, 12):
            spread = parted(chance, system.many)
            table = worth_of_steps(system)
            shares = [worth(share) for share in spread]
            for depth in range(6):
                behind = spread_behind(system, spread, depth)
                self.assertEqual(behind, tuple(pair(share) for share in shares))
                self.assertIs(is_spread(system.many, behind), True)
                shares = [sum(shares[one] * table[one][state] for one in range(system.many))
                          for state in range(system.many)]

    def test_depths(self):
        begin = ((0, 1), (1, 1))
        self.assertEqual(spread_behind(TWO, begin, 0), begin)
        self.assertEqual(spread_behind(TWO, begin, 1), ((1, 1), (0, 1)))
        self.assertEqual(spread_behind(SWAP, begin, 59), ((1, 1), (0, 1)))
        self.assertEqual(spread_behind(SWAP, begin, 60), begin)
        # Behind n moves the share of state 1 is (1 - (-1/3) ** n) / 4, if 0 is first.
        expected = (1 - Fraction(1, 3 ** 60)) / 4
        self.assertEqual(spread_behind(TWO, ((1, 1), (0, 1)), 60), (pair(1 - expected), pair(expected)))

    def test_no_depths(self):
        for depth in odd_things() + [61, 62, 400, (0,), [0], "0"]:
            self.assertRaises(NoNumber, spread_behind, TWO, ((0, 1), (1, 1)), depth)

    def test_the_spread_is_looked_at_first(self):
        self.assertRaises(NoSpread, spread_behind, TWO, None, 61)
        self.assertRaises(NoSpread, spread_behind, TWO, ((1, 1),), None)

    def test_what_was_returned_may_be_passed_on_whatever_its_size(self):
        system = long_system()
        begin = ((1, 1),) + ((0, 1),) * 11
        behind = spread_behind(system, begin, 60)
        self.assertGreater(behind[0][1], 10 ** 5000)
        self.assertIs(is_spread(12, behind), True)
        self.assertIs(is_spread(12, spread_behind(system, behind, 60)), True)
        further = System(12, tuple((share, tuple(range(12))) for share in behind))
        self.assertEqual(share_of(further, (3,)), behind[3])
        self.assertEqual(steps(further)[5][5], (1, 1))


if __name__ == "__main__":
    unittest.main()
