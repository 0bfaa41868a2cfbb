"""Promises 2.1 and 2.2, with 0.2 to 0.5: closed lots, steady spreads and trees."""

import random
import unittest
from fractions import Fraction
from itertools import combinations, product
from math import gcd

from asifforever.errors import NoLot, NoState, NotOne
from asifforever.steady import by_trees, closed_lots, is_steady, rounds_of, steady_spreads, tree_weight
from asifforever.systems import System, is_spread, spread_behind
from things import (
    SWAP, TWO, TWO_LOTS, any_system, any_systems, long_system, odd_things, pair, parted, with_one_changed, worth,
    worth_of_steps)

ONE = System(1, (((1, 3), (0,)), ((2, 3), (0,))))
KEPT = System(3, (((1, 1), (0, 1, 2)),))


def turning(many):
    """One move that leads each state to the next one, the last to 0."""
    return System(many, (((1, 1), tuple((k + 1) % many for k in range(many))),))


def is_led(system, one, other):
    """Whether some row leads one state to another, by so many sets of states."""
    found = {one}
    for _ in range(system.many):
        found = found | {leads[state] for state in found for _, leads in system.moves}
    return other in found


def closed_by_hand(system):
    """The closed lots, of all lots that there are."""
    closed = []
    states = range(system.many)
    led = {(one, other): is_led(system, one, other) for one in states for other in states}
    for size in range(1, system.many + 1):
        for lot in combinations(states, size):
            inside = all(leads[state] in lot for state in lot for _, leads in system.moves)
            if inside and all(led[one, other] for one in lot for other in lot):
                closed.append(lot)
    return sorted(closed)


def rounds_by_hand(system, lot):
    """The greatest divisor of all lengths up to 80 of rows that lead a state of the lot to itself."""
    rounds = 0
    for start in lot:
        now = {start}
        for length in range(1, 81):
            now = {leads[state] for state in now for _, leads in system.moves}
            if start in now:
                rounds = gcd(rounds, length)
    return rounds


def comes_to(ways, one, root):
    """Whether the ways lead one to the root at last."""
    for _ in ways:
        one = ways.get(one, one)
    return one == root


def weight_by_hand(system, root):
    """The tree weight by going through all trees one by one."""
    table = worth_of_steps(system)
    others = [state for state in range(system.many) if state != root]
    total = Fraction(0)
    for chosen in product(range(system.many), repeat=len(others)):
        ways = dict(zip(others, chosen))
        if all(comes_to(ways, state, root) for state in others):
            part = Fraction(1)
            for one, other in ways.items():
                part *= table[one][other]
            total += part
    return pair(total)


class ClosedLotsTest(unittest.TestCase):
    def test_told_ones(self):
        self.assertEqual(closed_lots(TWO), [(0, 1)])
        self.assertEqual(closed_lots(TWO_LOTS), [(1, 2), (3,)])
        self.assertEqual(closed_lots(ONE), [(0,)])
        self.assertEqual(closed_lots(KEPT), [(0,), (1,), (2,)])
        self.assertEqual(closed_lots(turning(12)), [tuple(range(12))])

    def test_states_in_no_closed_lot(self):
        self.assertEqual(closed_lots(System(3, (((1, 1), (1, 2, 2)),))), [(2,)])
        self.assertEqual(closed_lots(System(3, (((1, 2), (0, 2, 1)), ((1, 2), (1, 2, 1))))), [(1, 2)])

    def test_ascending_as_python_orders_tuples(self):
        system = System(5, (((1, 1), (4, 2, 1, 3, 0)),))
        self.assertEqual(closed_lots(system), [(0, 4), (1, 2), (3,)])

    def test_all_lots_gone_through(self):
        for system in any_systems(11, 150, 7):
            self.assertEqual(closed_lots(system), closed_by_hand(system))
        for system in any_systems(12, 8, 12):
            self.assertEqual(closed_lots(system), closed_by_hand(system))

    def test_the_list_is_new(self):
        closed_lots(TWO).append(None)
        steady_spreads(TWO).append(None)
        self.assertEqual(closed_lots(TWO), [(0, 1)])
        self.assertEqual(steady_spreads(TWO), [((3, 4), (1, 4))])


class RoundsTest(unittest.TestCase):
    def test_told_ones(self):
        self.assertEqual(rounds_of(TWO, (0, 1)), 1)
        self.assertEqual(rounds_of(SWAP, (0, 1)), 2)
        self.assertEqual(rounds_of(TWO_LOTS, (1, 2)), 2)
        self.assertEqual(rounds_of(TWO_LOTS, (3,)), 1)
        self.assertEqual(rounds_of(ONE, (0,)), 1)

    def test_turning(self):
        for many in range(1, 13):
            self.assertEqual(rounds_of(turning(many), tuple(range(many))), many)

    def test_two_lengths(self):
        # 0 1 2 3 0 beside 0 1 0: lengths 4 and 2; then beside 0 1 2 0: lengths 4 and 3.
        self.assertEqual(rounds_of(System(4, (((1, 2), (1, 2, 3, 0)), ((1, 2), (1, 0, 3, 0)))), (0, 1, 2, 3)), 2)
        self.assertEqual(rounds_of(System(4, (((1, 2), (1, 2, 3, 0)), ((1, 2), (1, 2, 0, 0)))), (0, 1, 2, 3)), 1)
        # Lengths 6 and 9: three rounds, though no row of length 3 leads back.
        long = (1, 2, 3, 4, 5, 6, 7, 8, 0)
        short = (1, 2, 3, 4, 5, 0, 7, 8, 0)
        self.assertEqual(rounds_of(System(9, (((1, 2), long), ((1, 2), short))), tuple(range(9))), 3)

    def test_all_lengths_gone_through(self):
        chance = random.Random(13)
        some = [turning(many) for many in range(1, 13)] + any_systems(14, 80, 12)
        for many in range(2, 13):
            for jump in range(1, many):
                leads = tuple((k + 1) % many for k in range(many))
                at = chance.randrange(many)
                other = leads[:at] + ((at + jump) % many,) + leads[at + 1:]
                some.append(System(many, (((1, 2), leads), ((1, 2), other))))
        for system in some:
            for lot in closed_lots(system):
                self.assertEqual(rounds_of(system, lot), rounds_by_hand(system, lot))

    def test_no_closed_lots(self):
        for lot in (
                (), (0,), (1,), (2,), (0, 1), (0, 3), (1, 2, 3), (2, 1), (1, 1, 2), (0, 1, 2, 3), (4,), (-1,), (1, 4),
                [1, 2], [3], (1, 2.5), (3, None), "3", 3, ("3",), ((3,),), ((1, 2), (3,)), (True, 2), range(1, 3),
                {3: 3}, ([],), ([3],), ({},)):
            self.assertRaises(NoLot, rounds_of, TWO_LOTS, lot)
        self.assertRaises(NoLot, rounds_of, TWO, (False, True))
        self.assertRaises(NoLot, rounds_of, TWO, (False, 1))
        self.assertRaises(NoLot, rounds_of, ONE, (False,))

    def test_anything_may_be_passed(self):
        for thing in odd_things() + list(with_one_changed((0, 1), odd_things())):
            self.assertRaises(NoLot, rounds_of, TWO, thing)
            self.assertRaises(NoLot, rounds_of, TWO_LOTS, thing)


class SteadySpreadsTest(unittest.TestCase):
    def test_e02(self):
        self.assertEqual(steady_spreads(TWO), [((3, 4), (1, 4))])

    def test_several_closed_lots(self):
        none = (0, 1)
        self.assertEqual(
            steady_spreads(TWO_LOTS), [(none, (1, 2), (1, 2), none), (none, none, none, (1, 1))])
        self.assertEqual(
            steady_spreads(KEPT), [((1, 1), none, none), (none, (1, 1), none), (none, none, (1, 1))])
        self.assertEqual(steady_spreads(ONE), [((1, 1),)])

    def test_rounds_do_not_matter(self):
        for many in range(1, 13):
            self.assertEqual(steady_spreads(turning(many)), [((1, many),) * many])

    def test_many_steps_of_no_share(self):
        # 0 and 1 are led to 2 and 3 for sure, those back: most steps have the share 0.
        system = System(4, (((1, 3), (2, 2, 0, 0)), ((2, 3), (3, 3, 1, 1))))
        self.assertEqual(steady_spreads(system), [((1, 6), (1, 3), (1, 6), (1, 3))])

    def test_each_is_a_spread_behind_itself(self):
        for system in any_systems(21, 120, 12) + [TWO_LOTS, KEPT, long_system()]:
            spreads = steady_spreads(system)
            self.assertEqual(len(spreads), len(closed_lots(system)))
            for lot, spread in zip(closed_lots(system), spreads):
                self.assertIs(is_spread(system.many, spread), True)
                for depth in (1, 2, 7):
                    self.assertEqual(spread_behind(system, spread, depth), spread)
                self.assertEqual(tuple(k for k in range(system.many) if spread[k] != (0, 1)), lot)

    def test_far_behind_comes_near(self):
        for system in any_systems(22, 40, 5):
            if len(closed_lots(system)) == 1 and rounds_of(system, closed_lots(system)[0]) == 1:
                table = worth_of_steps(system)
                far = [float(k == 0) for k in range(system.many)]
                for _ in range(3000):
                    far = [sum(far[one] * float(table[one][k]) for one in range(system.many))
                           for k in range(system.many)]
                for one, other in zip(far, steady_spreads(system)[0]):
                    self.assertAlmostEqual(one, float(worth(other)))


class IsSteadyTest(unittest.TestCase):
    def test_told_ones(self):
        self.assertIs(is_steady(TWO, ((3, 4), (1, 4))), True)
        self.assertIs(is_steady(TWO, ((1, 2), (1, 2))), False)
        self.assertIs(is_steady(TWO, ((1, 4), (3, 4))), False)
        self.assertIs(is_steady(SWAP, ((1, 2), (1, 2))), True)
        self.assertIs(is_steady(SWAP, ((1, 1), (0, 1))), False)
        self.assertIs(is_steady(KEPT, ((1, 6), (1, 2), (1, 3))), True)

    def test_sums_of_shares_and_near_ones(self):
        chance = random.Random(23)
        systems = [TWO_LOTS, KEPT, TWO, turning(5)] + any_systems(24, 150, 8)
        for system in systems:
            spreads = steady_spreads(system)
            shares = parted(chance, len(spreads))
            mixed = [sum(worth(share) * worth(spread[k]) for share, spread in zip(shares, spreads))
                     for k in range(system.many)]
            self.assertIs(is_steady(system, tuple(pair(share) for share in mixed)), True)
            if system.many > 1:
                one, other = chance.sample(range(system.many), 2)
                part = Fraction(1, 10 ** 11)
                near = list(mixed)
                near[one] += part
                near[other] -= part
                alike = near[other] >= 0 and all(
                    sum(near[state] * worth_of_steps(system)[state][k] for state in range(system.many)) == near[k]
                    for k in range(system.many))
                self.assertIs(is_steady(system, tuple(pair(share) for share in near)), alike)

    def test_states_in_no_closed_lot_have_no_share(self):
        self.assertIs(is_steady(TWO_LOTS, ((0, 1), (1, 4), (1, 4), (1, 2))), True)
        self.assertIs(is_steady(TWO_LOTS, ((1, 4), (1, 4), (1, 4), (1, 4))), False)
        self.assertIs(is_steady(TWO_LOTS, ((0, 1), (1, 2), (1, 4), (1, 4))), False)

    def test_no_spreads(self):
        for thing in (
                (), ((3, 4),), ((3, 4), (1, 4), (0, 1)), [(3, 4), (1, 4)], ((3, 4), [1, 4]), ((6, 8), (1, 4)),
                ((3, 2), (1, 2)), ((0, 1), (0, 1)), ((3, 4), (1, 4, 1)), ((3, 4), (True, 4))):
            self.assertIs(is_steady(TWO, thing), False)
        for thing in odd_things() + list(with_one_changed(((3, 4), (1, 4)), odd_things())):
            self.assertIs(is_steady(TWO, thing), False)
            self.assertIs(is_steady(ONE, thing), False)


class TreesTest(unittest.TestCase):
    def test_told_ones(self):
        self.assertEqual(tree_weight(TWO, 0), (1, 1))
        self.assertEqual(tree_weight(TWO, 1), (1, 3))
        self.assertEqual(by_trees(TWO), ((3, 4), (1, 4)))
        self.assertEqual(tree_weight(ONE, 0), (1, 1))
        self.assertEqual(by_trees(ONE), ((1, 1),))

    def test_all_trees_gone_through(self):
        chance = random.Random(31)
        systems = [TWO, SWAP, TWO_LOTS, KEPT, ONE, turning(5)]
        for many in range(1, 6):
            systems += [any_system(chance, many, moves) for moves in (1, 2, 2, 3, 3, 5)]
        for system in systems:
            weights = [weight_by_hand(system, root) for root in range(system.many)]
            self.assertEqual([tree_weight(system, root) for root in range(system.many)], weights)
            if len(closed_lots(system)) == 1:
                together = sum(worth(weight) for weight in weights)
                self.assertEqual(by_trees(system), tuple(pair(worth(weight) / together) for weight in weights))

    def test_twelve_states(self):
        # All steps between 12 states: 12 ** 10 trees towards each, as Cayley counted.
        each = System(12, tuple(((1, 12), (k,) * 12) for k in range(12)))
        self.assertEqual([tree_weight(each, k) for k in range(12)], [(1, 12)] * 12)
        self.assertEqual(by_trees(each), ((1, 12),) * 12)
        self.assertEqual([tree_weight(turning(12), k) for k in range(12)], [(1, 1)] * 12)
        # Up by 1/3, down by 2/3: one tree towards each state, k steps up and 11 - k down.
        up = tuple(min(k + 1, 11) for k in range(12))
        down = tuple(max(k - 1, 0) for k in range(12))
        line = System(12, (((1, 3), up), ((2, 3), down)))
        self.assertEqual([tree_weight(line, k) for k in range(12)], [(2 ** (11 - k), 3 ** 11) for k in range(12)])
        self.assertEqual(by_trees(line), tuple((2 ** (11 - k), 2 ** 12 - 1) for k in range(12)))

    def test_the_second_step(self):
        chance = random.Random(32)
        systems = any_systems(33, 120, 12) + [any_system(chance, 12, 24) for _ in range(4)] + [long_system()]
        several = 0
        for system in systems:
            if len(closed_lots(system)) == 1:
                self.assertEqual([by_trees(system)], steady_spreads(system))
            else:
                several += 1
                self.assertRaises(NotOne, by_trees, system)
                self.assertEqual([tree_weight(system, k) for k in range(system.many)], [(0, 1)] * system.many)
        self.assertGreater(several, 10)

    def test_not_one(self):
        for system in (TWO_LOTS, KEPT):
            self.assertRaises(NotOne, by_trees, system)
            self.assertEqual([tree_weight(system, k) for k in range(system.many)], [(0, 1)] * system.many)

    def test_no_trees_towards_states_in_no_closed_lot(self):
        system = System(3, (((1, 2), (1, 2, 1)), ((1, 2), (2, 2, 2))))
        self.assertEqual([tree_weight(system, k) for k in range(3)], [(0, 1), (1, 2), (1, 1)])
        self.assertEqual(by_trees(system), ((0, 1), (1, 3), (2, 3)))

    def test_no_states(self):
        for state in odd_things() + [2, 12, (0,), "0", [0]]:
            self.assertRaises(NoState, tree_weight, TWO, state)
        self.assertRaises(NoState, tree_weight, ONE, 1)
        self.assertRaises(NoState, tree_weight, TWO_LOTS, True)

    def test_systems_of_what_was_returned(self):
        behind = spread_behind(long_system(), ((1, 1),) + ((0, 1),) * 11, 8)
        system = System(12, tuple((share, (k,) * 12) for k, share in enumerate(behind)))
        self.assertEqual(by_trees(system), behind)
        self.assertEqual(steady_spreads(system), [behind])
        self.assertIs(is_steady(system, behind), True)


if __name__ == "__main__":
    unittest.main()
