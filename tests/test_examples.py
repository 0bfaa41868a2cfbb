"""The document's examples as they stand."""

import unittest

from asifforever.steady import by_trees, steady_spreads
from asifforever.systems import System, steps, system_text


class ExamplesTest(unittest.TestCase):
    def setUp(self):
        self.t = System(2, (((1, 3), (1, 0)), ((2, 3), (0, 0))))

    def test_e01(self):
        self.assertEqual(steps(self.t), (((2, 3), (1, 3)), ((1, 1), (0, 1))))
        self.assertEqual(system_text(self.t), "states 2\n1/3: 1 0\n2/3: 0 0\n")

    def test_e02(self):
        self.assertEqual(steady_spreads(self.t), [((3, 4), (1, 4))])
        self.assertEqual(by_trees(self.t), ((3, 4), (1, 4)))


if __name__ == "__main__":
    unittest.main()
