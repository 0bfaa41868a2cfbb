"""Promise 13.2, with 0.2 to 0.5: the desk, line by line."""

import random
import unittest
from fractions import Fraction

from asifforever.desk import Desk
from asifforever.errors import BadModel, NoCoins, NoLine, NoName, NoPairs, NoPicture, NoSizes, NothingFits
from asifforever.models import colourings, sets_apart, spins, stacks
from asifforever.modeltexts import model_text, read_model
from asifforever.rising import drawn_picture, flips_for
from asifforever.tables import likeliest, share_of_picture, total
from byhand import any_coins
from things import all_pictures, odd_things

EVEN = "apart m 2 1 0-1"
NO_NUMBERS = ("", "01", "00", "-1", "+1", "1.0", "1000000000000", "a", "1a", "1_0", "1/2")
NO_NAMES = ("", "A", "Ab", "aB", "abcdefghi", "a1", "1", "a-b", "a_b", "m\n", "\nm", "\u00e9")


def desk_of(*lines):
    """A Desk to which lines were told."""
    desk = Desk()
    for line in lines:
        desk.tell(line)
    return desk


def fraction_by_hand(share):
    """A fraction as 1.3 tells it."""
    return str(share[0]) if share[1] == 1 else f"{share[0]}/{share[1]}"


def row_by_hand(row):
    """Values parted by blanks."""
    return " ".join(str(value) for value in row)


def coin_text(coin):
    """A coin as the desk reads it."""
    return f"{coin[0]}@{fraction_by_hand(coin[1])}"


class DeskTest(unittest.TestCase):
    def assert_no_line(self, desk, line):
        with self.subTest(line):
            self.assertRaises(NoLine, desk.tell, line)

    def shown(self, desk, name):
        """The model under a name, by what the desk shows of it."""
        text = desk.tell("show " + name)
        self.assertEqual(text.count("\n"), 1)
        return read_model(text.replace("; ", "\n"))


class MakingTest(DeskTest):
    def test_told_ones(self):
        for line, model in (
                ("spins a 3 5 2 0-1 1-2", spins(3, ((0, 1), (1, 2)), 5, 2)),
                ("spins a 2 0 1000", spins(2, (), 0, 1000)), ("spins a 12 1 2 10-11", spins(12, ((10, 11),), 1, 2)),
                ("apart a 2 1 0-1", sets_apart(2, ((0, 1),), 1)), ("apart a 1 7", sets_apart(1, (), 7)),
                ("apart a 3 0 0-1 0-2 1-2", sets_apart(3, ((0, 1), (0, 2), (1, 2)), 0)),
                ("colours a 2 3 0-1", colourings(2, ((0, 1),), 3)), ("colours a 4 1", colourings(4, (), 1)),
                ("stacks a 2 3 1", stacks(2, 3, 1)), ("stacks a 1 1 0", stacks(1, 1, 0))):
            desk = Desk()
            self.assertEqual(desk.tell(line), "ok")
            self.assertEqual(self.shown(desk, "a"), model)

    def test_names(self):
        desk = Desk()
        for name in ("a", "z", "abcdefgh", "show", "drop", "spins", "none", "ok"):
            self.assertEqual(desk.tell(f"apart {name} 1 1"), "ok")
            self.assertEqual(desk.tell(f"total {name}"), "2")
        for name in NO_NAMES:
            for word in ("spins {} 2 1 1", "apart {} 2 1 0-1", "colours {} 2 2", "stacks {} 1 1 1", "show {}", "total {}",
                         "share {} 0 0", "likeliest {}", "flips {}", "draw {}", "draw {} 0@0", "drop {}"):
                self.assert_no_line(desk, word.format(name))

    def test_in_the_place_of_an_elder_one(self):
        desk = desk_of(EVEN)
        self.assertEqual(desk.tell("total m"), "3")
        self.assertEqual(desk.tell("stacks m 2 2 2"), "ok")
        self.assertEqual(desk.tell("total m"), "20")

    def test_bent_lines(self):
        desk = desk_of("apart a 3 1 0-1")
        for line in (
                "spins", "spins ", "spins a", "spins a 3", "spins a 3 1", "spins a 3 1 ", "spins  a 3 1 2",
                "spins a  3 1 2", " spins a 3 1 2", "spins a 3 1 2 ", "spins a 3 1 2  0-1", "Spins a 3 1 2",
                "spin a 3 1 2", "spins a 3 1 2 0", "spins a 3 1 2 0-", "spins a 3 1 2 -1", "spins a 3 1 2 -",
                "spins a 3 1 2 0-1-2", "spins a 3 1 2 0,1", "spins a 3 1 2 0--1", "spins a 3 1 2 0-1,1-2",
                "spins a 3 1 2 0-1\n", "spins a 3 1 2\n", "\nspins a 3 1 2", "spins a 3 1 2 0 -1", "spins 3 1 2 0-1",
                "spins a 3 1 0-1", "apart a 3", "apart a 3 0-1", "apart a", "apart a 3 1 1", "apart a 3 1 2 0-1",
                "apart a 3 1 0-1 ", "colours a 3", "colours a 3 0-1", "colours a 3 2 2", "colors a 3 2",
                "stacks a 2 2", "stacks a 2", "stacks a", "stacks a 2 2 1 ", "stacks a 2 2 1 1", "stacks a 2 2 1 0-1",
                "stacks a 2 2  1", "", " ", "a", "ok", "spins\ta 3 1 2"):
            self.assert_no_line(desk, line)
        for number in NO_NUMBERS:
            for line in ("spins a {} 1 2", "spins a 3 {} 2", "spins a 3 1 {}", "spins a 3 1 2 {}-1", "spins a 3 1 2 0-{}",
                         "spins a 3 1 2 0-1 {}-2", "apart a {} 1", "apart a 3 {}", "apart a 3 1 {}-1", "colours a {} 2",
                         "colours a 3 {}", "colours a 3 2 0-{}", "stacks a {} 1 1", "stacks a 1 {} 1", "stacks a 1 1 {}"):
                self.assert_no_line(desk, line.format(number))
        self.assertEqual(desk.tell("total a"), "6")

    def test_no_string(self):
        desk = desk_of(EVEN)
        for thing in odd_things() + [b"total m", ["total m"], ("total", "m"), None, 0]:
            self.assertRaises(NoLine, desk.tell, thing)

    def test_what_8_4_raises(self):
        desk = desk_of("apart a 3 1 0-1")
        for line, part in (
                ("spins a 0 1 2", "many"), ("spins a 13 1 2", "many"), ("spins a 2 1001 2 0-1", 0),
                ("spins a 2 2 1001 0-1", 0), ("apart a 0 1", "many"), ("apart a 2 1001", "weights"),
                ("apart a 13 1001 1-0", "many"), ("colours a 13 2", "many"), ("colours a 2 0", "levels"),
                ("colours a 2 5", "levels"), ("spins a 6 1 1 0-1 0-2 0-3 0-4 0-5", "crowded")):
            with self.assertRaises(BadModel) as found:
                desk.tell(line)
            self.assertEqual(found.exception.part, part)
        for pairs in ("1-0", "1-1", "0-3", "5-6", "0-1 0-1", "1-2 0-1", "0-999999999999"):
            for line in ("spins a 3 1 2 ", "apart a 3 1 ", "colours a 3 2 "):
                self.assertRaises(NoPairs, desk.tell, line + pairs)
        for line in ("stacks a 0 1 1", "stacks a 1 0 1", "stacks a 4 4 1", "stacks a 13 1 1", "stacks a 1 1 4"):
            self.assertRaises(NoSizes, desk.tell, line)
        # What was refused has changed nothing, and has left no name.
        self.assertEqual(desk.tell("total a"), "6")
        self.assertRaises(NoSizes, desk.tell, "stacks b 0 1 1")
        self.assertRaises(NoName, desk.tell, "total b")


class AskingTest(DeskTest):
    def test_no_line_then_no_name(self):
        desk = desk_of(EVEN, "apart gone 1 1", "drop gone")
        for line in ("show {}", "total {}", "share {} 0", "share {} 999999999999 0", "likeliest {}", "flips {}",
                     "draw {}", "draw {} 0@0", "draw {} 7@3/2", "drop {}"):
            for name in ("a", "gone", "mm", "abcdefgh"):
                with self.assertRaises(NoName) as found:
                    desk.tell(line.format(name))
                self.assertEqual(found.exception.name, name)
            self.assert_no_line(desk, line.format("a") + " ")
            self.assert_no_line(desk, line.format("a") + " x")
        self.assertEqual(desk.tell("total m"), "3")

    def test_bent_lines(self):
        desk = desk_of(EVEN)
        for word in ("show", "total", "likeliest", "flips", "drop"):
            for line in ("{}", "{} ", "{} m ", " {} m", "{}  m", "{} m 0", "{} m m", "{} m\n", "{} m 0-1", "{} m 0@0", "m {}"):
                self.assert_no_line(desk, line.format(word))
            self.assert_no_line(desk, word.upper() + " m")
            self.assert_no_line(desk, word + "s m")
        for line in ("share", "share m", "share m ", "share m 0 ", "share m  0 0", "share m 0  0", "share m 0,0",
                     "share m 0-0", "share m 0 0\n", "share 0 0", "share m 0 x"):
            self.assert_no_line(desk, line)
        for number in NO_NUMBERS:
            self.assert_no_line(desk, f"share m {number}")
            self.assert_no_line(desk, f"share m 0 {number}")
        for line in (
                "draw", "draw ", "draw m ", "draw m 0", "draw m 0@", "draw m @0", "draw m @", "draw m 0@0 ",
                "draw m  0@0", "draw m 0@0  1@0", "draw m 0@0@0", "draw m 0@2/4", "draw m 0@0/1", "draw m 0@1/1",
                "draw m 0@0/2", "draw m 0@1/0", "draw m 0@/2", "draw m 0@1/", "draw m 0@-1/2", "draw m -1@0",
                "draw m 0@1/02", "draw m 0@01/2", "draw m 0@1/2/3", "draw m 0 @0", "draw m 0@0,1@0", "draw m 0@ 0",
                "draw m 0@0\n", "draw m 0@1000000000000/1000000000001", "draw m 00@0", "draw 0@0", "draw m 0-1"):
            self.assert_no_line(desk, line)
        self.assertEqual(desk.tell("total m"), "3")

    def test_show(self):
        desk = desk_of(EVEN, "apart one 1 0")
        self.assertEqual(desk.tell("show m"), "places 2; levels 2; weights 1 1; weights 1 1; tie 0 1: 1 1 | 1 0\n")
        self.assertEqual(desk.tell("show one"), "places 1; levels 2; weights 1 0\n")
        self.assertEqual(desk.tell("show m").replace("; ", "\n"), model_text(sets_apart(2, ((0, 1),), 1)))

    def test_total(self):
        desk = desk_of(EVEN, "stacks s 3 4 3", "colours none 2 1 0-1", "spins a 12 1000 1000 0-1 2-3")
        self.assertEqual([desk.tell("total " + name) for name in ("m", "s", "none", "a")], ["3", "4116", "0", "4096000000"])

    def test_share(self):
        desk = desk_of(EVEN, "colours none 2 1 0-1", "apart one 1 0", "apart two 2 5 0-1")
        self.assertEqual([desk.tell(f"share m {row}") for row in ("0 0", "0 1", "1 0", "1 1")], ["1/3"] * 3 + ["0"])
        self.assertEqual([desk.tell("share one 0"), desk.tell("share one 1")], ["1", "0"])
        self.assertEqual(desk.tell("share two 1 0"), "5/11")
        for row in ("0", "0 0 0", "0 2", "999999999999 0"):
            self.assertRaises(NoPicture, desk.tell, "share m " + row)
        self.assertRaises(NoPicture, desk.tell, "share none 0 1")
        self.assertRaises(NothingFits, desk.tell, "share none 0 0")

    def test_likeliest(self):
        desk = desk_of(EVEN, "apart two 2 5 0-1", "colours none 2 1 0-1", "colours ring 12 3 0-1 0-11 1-2 10-11")
        self.assertEqual(
            [desk.tell("likeliest " + name) for name in ("m", "two", "none", "ring")],
            ["0 0", "0 1", "none", "0 1 0 0 0 0 0 0 0 0 0 1"])

    def test_flips(self):
        desk = desk_of(EVEN, "stacks s 2 2 1", "apart web 3 1 0-1 0-2 1-2", "apart one 1 1", "spins a 4 1 2 0-1 0-3")
        self.assertEqual(
            [desk.tell("flips " + name) for name in ("m", "s", "web", "one", "a")], ["+-", "++++", "none", "+", "+-+-"])

    def test_draw(self):
        desk = desk_of(EVEN, "apart web 3 1 0-1 0-2 1-2", "colours one 2 1")
        self.assertEqual(desk.tell("draw m 0@0 1@0"), "0 0 by 2")
        self.assertEqual(desk.tell("draw m 1@1/2 0@0"), "0 1 by 2")
        self.assertEqual(desk.tell("draw m 1@1/2 0@0 0@0 1@0"), "0 1 by 2")
        self.assertEqual(desk.tell("draw m 1@1/2 1@2/3 0@0"), "0 1 by 3")
        self.assertEqual(desk.tell("draw m"), "undecided")
        self.assertEqual(desk.tell("draw m 0@1/2"), "undecided")
        self.assertEqual(desk.tell("draw one"), "0 0 by 0")
        self.assertEqual(desk.tell("draw one 1@999999999998/999999999999"), "0 0 by 0")
        self.assertEqual(desk.tell("draw web"), "none")
        self.assertEqual(desk.tell("draw web 0@0 1@0 2@0"), "none")

    def test_draw_no_coins(self):
        desk = desk_of(EVEN, "apart web 3 1 0-1 0-2 1-2")
        for coins in ("0@1", "0@3/2", "2@0", "999999999999@0", "0@0 1@1", "0@0 1@0 2@0", "0@0 1@999999999999"):
            self.assertRaises(NoCoins, desk.tell, "draw m " + coins)
        self.assertEqual(desk.tell("draw m" + " 1@1/2" * 399 + " 0@0"), "0 1 by 400")
        self.assertRaises(NoCoins, desk.tell, "draw m" + " 1@1/2" * 401)
        self.assertEqual(desk.tell("draw m" + " 1@1/2" * 400), "undecided")
        # Where there are no flips nothing is asked of coins.
        self.assertEqual(desk.tell("draw web 0@1"), "none")

    def test_drop(self):
        desk = desk_of(EVEN, "apart b 1 1")
        self.assertEqual(desk.tell("drop m"), "ok")
        for line in ("drop m", "total m"):
            self.assertRaises(NoName, desk.tell, line)
        self.assertEqual(desk.tell("total b"), "2")
        self.assertEqual(desk.tell("apart m 1 2"), "ok")
        self.assertEqual(desk.tell("total m"), "3")

    def test_two_desks_go_on_apart(self):
        one, other = desk_of(EVEN), desk_of("apart m 1 1")
        one.tell("apart b 1 1")
        self.assertEqual((one.tell("total m"), other.tell("total m")), ("3", "2"))
        self.assertRaises(NoName, other.tell, "total b")
        other.tell("drop m")
        self.assertEqual(one.tell("total m"), "3")

    def test_against_the_functions(self):
        chance = random.Random(291)
        desk = Desk()
        for line, model in (
                ("spins a 4 3 1 0-1 1-2 2-3", spins(4, ((0, 1), (1, 2), (2, 3)), 3, 1)),
                ("spins a 3 1 3 0-1 1-2", spins(3, ((0, 1), (1, 2)), 1, 3)),
                ("apart a 4 2 0-1 0-3 1-2 2-3", sets_apart(4, ((0, 1), (0, 3), (1, 2), (2, 3)), 2)),
                ("colours a 3 3 0-1 1-2", colourings(3, ((0, 1), (1, 2)), 3)), ("stacks a 2 2 2", stacks(2, 2, 2))):
            desk.tell(line)
            self.assertEqual(desk.tell("total a"), str(total(model)))
            self.assertEqual(desk.tell("likeliest a"), row_by_hand(likeliest(model)))
            flips = flips_for(model)
            signs = "none" if flips is None else "".join("-" if flip else "+" for flip in flips)
            self.assertEqual(desk.tell("flips a"), signs)
            for picture in all_pictures(model):
                share = share_of_picture(model, picture)
                self.assertEqual(desk.tell("share a " + row_by_hand(picture)), fraction_by_hand(share))
                self.assertEqual(Fraction(desk.tell("share a " + row_by_hand(picture))), Fraction(*share))
            for many in (0, 1, 3, 5, 9, 20):
                coins = any_coins(chance, model, many)
                if all(max(share) < 10 ** 12 for _, share in coins):
                    answer = desk.tell(" ".join(["draw a"] + [coin_text(coin) for coin in coins]))
                    if flips is None:
                        self.assertEqual(answer, "none")
                    else:
                        word, thing, so_many = drawn_picture(model, flips, coins, "one")
                        self.assertEqual(answer, f"{row_by_hand(thing)} by {so_many}" if word == "told" else word)


if __name__ == "__main__":
    unittest.main()
