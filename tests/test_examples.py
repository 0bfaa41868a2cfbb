"""The document's examples as they stand."""

import unittest

from asifforever.bits import move_by_bits
from asifforever.distances import far_apart
from asifforever.drawing import drawn
from asifforever.merging import bias, merging_row, told_shares, undecided
from asifforever.models import fitting, sets_apart
from asifforever.once import once
from asifforever.renewals import cells
from asifforever.rising import drawn_picture, flips_for
from asifforever.steady import by_trees, steady_spreads
from asifforever.systems import System, steps, system_text
from asifforever.tables import total


class ExamplesTest(unittest.TestCase):
    def setUp(self):
        self.t = System(2, (((1, 3), (1, 0)), ((2, 3), (0, 0))))
        self.m = sets_apart(2, ((0, 1),), 1)

    def test_e01(self):
        self.assertEqual(steps(self.t), (((2, 3), (1, 3)), ((1, 1), (0, 1))))
        self.assertEqual(system_text(self.t), "states 2\n1/3: 1 0\n2/3: 0 0\n")

    def test_e02(self):
        self.assertEqual(steady_spreads(self.t), [((3, 4), (1, 4))])
        self.assertEqual(by_trees(self.t), ((3, 4), (1, 4)))

    def test_e03(self):
        self.assertEqual(merging_row(self.t), (1,))
        self.assertEqual(told_shares(self.t, 2), ((2, 3), (2, 9)))
        self.assertEqual(undecided(self.t, 2), (1, 9))
        self.assertEqual(bias(self.t, 1), (1, 4))

    def test_e04(self):
        self.assertEqual(drawn(self.t, (0, 1, 0), "one"), ("told", 1, 2))
        self.assertEqual(once(self.t, 1, (1, 0, 1)), ("told", 1, 3))
        self.assertEqual(move_by_bits(self.t, (0, 0, 1)), (0, 2))

    def test_e05(self):
        self.assertEqual(fitting(self.m), [(0, 0), (0, 1), (1, 0)])
        self.assertEqual(cells(self.m, 0), (((0, 1), (1, 2)), ((1, 2), (1, 1))))
        self.assertEqual(flips_for(self.m), (False, True))

    def test_e06(self):
        found = drawn_picture(self.m, (False, True), ((0, (0, 1)), (1, (0, 1))), "one")
        self.assertEqual(found, ("told", (0, 0), 2))

    def test_e07(self):
        self.assertEqual(total(self.m), 3)
        self.assertEqual(far_apart(self.t, 1), (1, 3))


if __name__ == "__main__":
    unittest.main()
