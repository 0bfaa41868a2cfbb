"""Promise 4.2, with 0.2 to 0.5: Drawers, coin by coin, and their texts."""

import random
import unittest

from asifforever.drawing import Drawer, drawer_of, drawer_text, drawn
from asifforever.errors import BadCoin, NoMove, TooMany
from asifforever.systems import System
from things import SWAP, TWO, TWO_LOTS, any_row, any_systems, lot_by_hand, odd_things, slow

ONE = System(1, (((1, 3), (0,)), ((2, 3), (0,))))
# Twelve moves, so that there are numbers of two figures.
DOZEN = System(12, tuple(((1, 12), (k,) * 11 + ((k + 1) % 12,)) for k in range(12)))


def seen(drawer):
    """All that a Drawer tells."""
    return (drawer.state(), drawer.depth(), drawer.lot(), drawer.coins())


def seen_by_hand(system, coins):
    """All that a Drawer should tell behind these coins."""
    told = drawn(system, coins, "one")
    lot = lot_by_hand(system, tuple(reversed(coins)))
    return (told[1], told[2], lot, coins) if told[0] == "told" else (None, None, lot, coins)


def number_of(system, text):
    """The number of the BadCoin that a text meets."""
    try:
        drawer_of(system, text)
    except BadCoin as wrong:
        return wrong.number
    return None


class DrawerTest(unittest.TestCase):
    def test_coin_by_coin(self):
        drawer = Drawer(TWO)
        self.assertEqual(seen(drawer), (None, None, (0, 1), ()))
        self.assertIsNone(drawer.read(0))
        self.assertEqual(seen(drawer), (None, None, (0, 1), (0,)))
        self.assertEqual(drawer.read(1), 1)
        self.assertEqual(seen(drawer), (1, 2, (1,), (0, 1)))
        for move in (0, 1, 1, 0):
            self.assertEqual(drawer.read(move), 1)
        self.assertEqual(seen(drawer), (1, 2, (1,), (0, 1, 0, 1, 1, 0)))

    def test_one_state(self):
        drawer = Drawer(ONE)
        self.assertEqual(seen(drawer), (0, 0, (0,), ()))
        self.assertEqual(drawer.read(1), 0)
        self.assertEqual(seen(drawer), (0, 0, (0,), (1,)))

    def test_state_0_is_told_as_well(self):
        drawer = Drawer(TWO)
        self.assertEqual(drawer.read(1), 0)
        self.assertEqual(seen(drawer), (0, 1, (0,), (1,)))

    def test_behind_every_coin(self):
        chance = random.Random(71)
        for system in any_systems(72, 60, 12) + [ONE, TWO, SWAP, TWO_LOTS, DOZEN, slow(4)]:
            drawer = Drawer(system)
            coins = any_row(chance, system, 30)
            for many, move in enumerate(coins):
                self.assertEqual(seen(drawer), seen_by_hand(system, coins[:many]))
                self.assertEqual(drawer.read(move), seen_by_hand(system, coins[:many + 1])[0])
            self.assertEqual(seen(drawer), seen_by_hand(system, coins))

    def test_copies_go_on_apart(self):
        chance = random.Random(73)
        for system in any_systems(74, 40, 8) + [TWO, slow(4)]:
            drawers = [(Drawer(system), [])]
            for _ in range(60):
                drawer, coins = chance.choice(drawers)
                if chance.randrange(4) == 0:
                    drawers.append((drawer.copy(), list(coins)))
                else:
                    coins.append(chance.randrange(len(system.moves)))
                    drawer.read(coins[-1])
                for other, others in drawers:
                    self.assertEqual(seen(other), seen_by_hand(system, tuple(others)))

    def test_what_is_told_is_no_part_of_the_drawer(self):
        drawer = Drawer(TWO_LOTS)
        before = drawer.coins()
        drawer.read(1)
        self.assertEqual(before, ())
        self.assertEqual(drawer.coins(), (1,))
        self.assertIsInstance(drawer.coins(), tuple)
        self.assertIsInstance(drawer.lot(), tuple)
        self.assertIsInstance(drawer.copy(), Drawer)
        self.assertIsNot(drawer.copy(), drawer)

    def test_no_moves(self):
        for move in odd_things() + [2, 3, (0,), [0], "0", "1"]:
            for system in (TWO, ONE):
                drawer = Drawer(system)
                drawer.read(1)
                before = seen(drawer)
                self.assertRaises(NoMove, drawer.read, move)
                self.assertEqual(seen(drawer), before)

    def test_too_many(self):
        for system in (SWAP, TWO, ONE):
            drawer = Drawer(system)
            for _ in range(400):
                drawer.read(0)
            before = seen(drawer)
            for made in (drawer, drawer.copy()):
                for _ in range(2):
                    with self.assertRaises(TooMany) as found:
                        made.read(0)
                    self.assertEqual(found.exception.most, 400)
                    self.assertRaises(NoMove, made.read, 2)
                    self.assertRaises(NoMove, made.read, None)
                    self.assertEqual(seen(made), before)
            self.assertEqual(before, seen_by_hand(system, (0,) * 400))


class DrawerTextTest(unittest.TestCase):
    def test_texts(self):
        drawer = Drawer(TWO)
        self.assertEqual(drawer_text(drawer), "\n")
        drawer.read(0)
        self.assertEqual(drawer_text(drawer), "0\n")
        drawer.read(1)
        self.assertEqual(drawer_text(drawer), "0 1\n")
        self.assertEqual(seen(drawer), (1, 2, (1,), (0, 1)))
        drawer = Drawer(DOZEN)
        for move in (11, 0, 10, 9):
            drawer.read(move)
        self.assertEqual(drawer_text(drawer), "11 0 10 9\n")

    def test_texts_and_back(self):
        chance = random.Random(75)
        for system in any_systems(76, 40, 12) + [ONE, DOZEN, slow(12)]:
            for length in (0, 1, 2, 40, 400):
                coins = any_row(chance, system, length)
                text = " ".join(str(move) for move in coins) + "\n"
                drawer = drawer_of(system, text)
                self.assertIsInstance(drawer, Drawer)
                self.assertEqual(seen(drawer), seen_by_hand(system, coins))
                self.assertEqual(drawer_text(drawer), text)

    def test_a_drawer_of_a_text_goes_on(self):
        drawer = drawer_of(TWO, "0\n")
        self.assertEqual(drawer.read(1), 1)
        self.assertEqual(drawer_text(drawer), "0 1\n")
        self.assertRaises(TooMany, drawer_of(TWO, "0 " * 399 + "0\n").read, 0)

    def test_words_that_are_wrong(self):
        for word in (
                "", "2", "12", "-1", "+1", "-0", "00", "01", "0.", "1.0", "1e0", "a", "0a", "x1", "0x1", "_", "1_0", "0,",
                "one", "1/1", "999999999999", "1" * 13, "1" * 5000, "(0)", "'0'", "[0]"):
            self.assertEqual(number_of(TWO, word + " 0 1\n"), 0, word)
            self.assertEqual(number_of(TWO, "0 " + word + " 1\n"), 1, word)
            self.assertEqual(number_of(TWO, "0 1 1 " + word + "\n"), 3, word)
            self.assertEqual(number_of(TWO, "0 " + word + " 1 " + word + "\n"), 1, word)
            self.assertEqual(number_of(TWO, "0 " + word), 1, word)
            if word:
                self.assertEqual(number_of(TWO, word + "\n"), 0, word)
                self.assertEqual(number_of(TWO, word), 0, word)

    def test_blanks(self):
        for text, number in (
                (" \n", 0), (" 0\n", 0), ("0 \n", 1), ("0  1\n", 1), ("0 1  \n", 2), ("  0\n", 0), (" ", 0), ("0 1 ", 2),
                (" 0", 0), ("0  ", 1)):
            self.assertEqual(number_of(TWO, text), number, text)

    def test_the_line_feed(self):
        for text, number in (
                ("", 0), ("0", 1), ("0 1", 2), ("\n\n", 0), ("0\n\n", 1), ("0 1\n\n", 2), ("0 1\n\n\n", 2), ("\n0\n", 0),
                ("\n0", 0), ("0\n1", 1), ("0\n1\n", 1), ("0 1\n ", 2), ("0 1\nx\n", 2), ("0\n2", 1), ("0 x\n\n", 1)):
            self.assertEqual(number_of(TWO, text), number, text)

    def test_moves_of_the_system(self):
        self.assertEqual(number_of(SWAP, "0 0 1\n"), 2)
        self.assertIsNone(number_of(DOZEN, "0 10 11\n"))
        self.assertEqual(number_of(DOZEN, "0 10 12\n"), 2)
        self.assertEqual(number_of(DOZEN, "0 1 010\n"), 2)

    def test_no_string(self):
        for text in odd_things() + [["0\n"], ("0\n",), b"0\n"]:
            if not isinstance(text, str):
                self.assertEqual(number_of(TWO, text), -1)

    def test_too_many(self):
        for many in (401, 402, 10000):
            text = "0 " * (many - 1) + "0"
            with self.assertRaises(TooMany) as found:
                drawer_of(TWO, text + "\n")
            self.assertEqual(found.exception.most, 400)
            # A wrong word is told ahead of it, wherever it stands.
            self.assertEqual(number_of(TWO, text), many)
            self.assertEqual(number_of(TWO, text + "\n\n"), many)
            self.assertEqual(number_of(TWO, text + " 2\n"), many)
        self.assertEqual(drawer_of(TWO, "0 " * 399 + "0\n").coins(), (0,) * 400)


if __name__ == "__main__":
    unittest.main()
