"""Promise 13.1, with 0.2 to 0.5: models as texts."""

import unittest

from asifforever.errors import BadLine, BadModel
from asifforever.models import Model, sets_apart, stacks
from asifforever.modeltexts import model_text, read_model
from things import MODEL, any_models, odd_things

EVEN = sets_apart(2, ((0, 1),), 1)
TEXT = "places 2\nlevels 2\nweights 1 1\nweights 1 1\ntie 0 1: 1 1 | 1 0\n"
LINES = TEXT.splitlines()
NO_NUMBERS = ("", "01", "00", "-1", "+1", "1.0", "1000000000000", "a", "1a", "x1", "0x1", "1_0", "1/1", "1,1")


def number_of(text):
    """The number of the BadLine that a text meets, the part of the BadModel as a pair, None if it meets none."""
    try:
        read_model(text)
    except BadLine as wrong:
        return wrong.number
    except BadModel as wrong:
        return ("model", wrong.part)
    return None


def joined(lines):
    """Lines, each closed by a line feed."""
    return "".join(line + "\n" for line in lines)


def with_line(number, line):
    """The text of EVEN in which one line is another, counted from 1."""
    return joined(LINES[:number - 1] + [line] + LINES[number:])


class TextTest(unittest.TestCase):
    def test_told_ones(self):
        self.assertEqual(model_text(EVEN), TEXT)
        self.assertEqual(model_text(Model(1, 3, ((1, 0, 1000),), ())), "places 1\nlevels 3\nweights 1 0 1000\n")
        self.assertEqual(
            model_text(MODEL),
            "places 2\nlevels 3\nweights 1 2 3\nweights 4 0 6\ntie 0 1: 1 1 1 | 1 5 2 | 7 1 0\n")
        one = Model(2, 1, ((1,), (2,)), ((0, 1, ((3,),)),))
        self.assertEqual(model_text(one), "places 2\nlevels 1\nweights 1\nweights 2\ntie 0 1: 3\n")
        self.assertEqual(len(model_text(stacks(3, 4, 3)).splitlines()), 2 + 12 + 17)
        self.assertIn("tie 10 11: 1 0 0 0 | 1 1 0 0 | 1 1 1 0 | 1 1 1 1\n", model_text(stacks(3, 4, 3)))

    def test_and_back(self):
        for model in any_models(281, 150) + [EVEN, MODEL, stacks(3, 4, 3), sets_apart(12, (), 1000)]:
            text = model_text(model)
            self.assertIs(type(text), str)
            found = read_model(text)
            self.assertEqual(found, model)
            self.assertIsInstance(found, Model)
            self.assertEqual(model_text(found), text)


class BadLineTest(unittest.TestCase):
    def test_no_string(self):
        for thing in odd_things() + [b"places 1\n", [TEXT], (TEXT,), 0, None]:
            if not isinstance(thing, str):
                self.assertEqual(number_of(thing), 0)
        for thing in odd_things():
            if isinstance(thing, str):
                self.assertEqual(number_of(thing), 1)

    def test_the_first_line(self):
        for number in NO_NUMBERS:
            self.assertEqual(number_of(with_line(1, "places " + number)), 1, number)
        for line in (
                "", "places", "place 2", "Places 2", " places 2", "places  2", "places 2 ", "places 2 2", "2",
                "levels 2", "weights 1 1", "tie 0 1: 1", "places:2", "places\t2", "states 2"):
            self.assertEqual(number_of(with_line(1, line)), 1, line)
            self.assertEqual(number_of(line), 1)

    def test_the_second_line(self):
        for number in NO_NUMBERS:
            self.assertEqual(number_of(with_line(2, "levels " + number)), 2, number)
        for line in ("", "levels", "level 2", " levels 2", "levels  2", "levels 2 ", "levels 2 2", "places 2",
                     "weights 1 1", "tie 0 1: 1 1 | 1 0", "2"):
            self.assertEqual(number_of(with_line(2, line)), 2, line)

    def test_lines_of_weights(self):
        for number in NO_NUMBERS:
            for line in ("weights " + number, "weights 1 " + number, "weights " + number + " 1"):
                self.assertEqual(number_of(with_line(3, line)), 3, line)
                self.assertEqual(number_of(with_line(4, line)), 4, line)
        for line in ("", "weights", "weights ", "weight 1 1", " weights 1 1", "weights  1 1", "weights 1  1",
                     "weights 1 1 ", "weights: 1 1", "1 1", "places 2", "levels 2", "tie 0 1: 1 1 | 1 0",
                     "weights 1 | 1"):
            self.assertEqual(number_of(with_line(3, line)), 3, line)
            self.assertEqual(number_of(with_line(4, line)), 4, line)

    def test_lines_of_ties(self):
        for number in NO_NUMBERS:
            for line in (f"tie {number} 1: 1 1 | 1 0", f"tie 0 {number}: 1 1 | 1 0", f"tie 0 1: {number} 1 | 1 0",
                         f"tie 0 1: 1 1 | 1 {number}", f"tie 0 1: 1 1 | {number}", f"tie 0 1: {number}"):
                self.assertEqual(number_of(with_line(5, line)), 5, line)
        for line in (
                "", "tie", "tie 0 1", "tie 0 1:", "tie 0 1: ", "tie 0: 1 1 | 1 0", "tie 0 1 2: 1 1 | 1 0",
                "ties 0 1: 1 1 | 1 0", " tie 0 1: 1 1 | 1 0", "tie  0 1: 1 1 | 1 0", "tie 0  1: 1 1 | 1 0",
                "tie 0 1 : 1 1 | 1 0", "tie 0 1:1 1 | 1 0", "tie 0 1:  1 1 | 1 0", "tie 0 1: 1 1 | 1 0 ",
                "tie 0 1: 1 1| 1 0", "tie 0 1: 1 1 |1 0", "tie 0 1: 1 1  | 1 0", "tie 0 1: 1 1 |  1 0",
                "tie 0 1: 1 1 | | 1 0", "tie 0 1: 1 1 | 1 0 |", "tie 0 1: 1 1 | 1 0 | ", "tie 0 1: | 1 0",
                "tie 0 1: 1 1 || 1 0", "tie 0 1: 1 1 : 1 0", "weights 1 1", "places 2", "levels 2", "tie 0, 1: 1"):
            self.assertEqual(number_of(with_line(5, line)), 5, line)
            # Behind one that is right, and ahead of a wrong one.
            text = joined(LINES + [line, "none"])
            self.assertEqual(number_of(text), 6, line)

    def test_the_first_wrong_line_is_told(self):
        for at in range(1, 6):
            lines = LINES[:at - 1] + ["none"] * (6 - at)
            self.assertEqual(number_of(joined(lines)), at)
            self.assertEqual(number_of("\n".join(LINES[:at - 1] + ["none"])), at)
        # Ahead of what is wrong with the model.
        self.assertEqual(number_of(joined(["places 13", "levels 2", "none"])), 3)
        self.assertEqual(number_of(joined(["places 0", "levels 9", "weights 1"])), 3)

    def test_lines_that_are_lacking(self):
        for many in range(4):
            self.assertEqual(number_of(joined(LINES[:many])), many + 1)
        self.assertEqual(number_of(joined(["places 999999999999", "levels 2", "weights 1 1"])), 4)
        self.assertEqual(number_of(joined(["places 3"] + LINES[1:])), 5)
        self.assertEqual(number_of(joined(["places 3"] + LINES[1:4])), 5)
        self.assertEqual(number_of(joined(["places 1"] + LINES[1:])), 4)
        self.assertIsNone(number_of(joined(LINES[:4])))

    def test_what_is_left_behind_the_last_line_feed(self):
        self.assertEqual(number_of(""), 1)
        self.assertEqual(number_of("\n"), 1)
        self.assertEqual(number_of("places 2"), 1)
        for many in range(1, 6):
            self.assertEqual(number_of("\n".join(LINES[:many])), many)
        self.assertEqual(number_of(TEXT + " "), 6)
        self.assertEqual(number_of(TEXT + "tie 0 1: 1 1 | 1 0"), 6)
        self.assertEqual(number_of(TEXT + "\n"), 6)
        self.assertEqual(number_of("\n" + TEXT), 1)
        self.assertEqual(number_of(joined(LINES[:4])[:-1]), 4)

    def test_twelve_figures_have_the_form(self):
        self.assertEqual(number_of(with_line(3, "weights 999999999999 1")), ("model", "weights"))
        self.assertEqual(number_of(with_line(3, "weights 1000000000000 1")), 3)


class BadModelTest(unittest.TestCase):
    def test_each_part(self):
        ones = ["weights 1 1"]
        for lines, part in (
                (["places 0", "levels 2"], "many"), (["places 13", "levels 2"] + ones * 13, "many"),
                (["places 0", "levels 0"], "many"), (["places 1", "levels 0", "weights 1"], "levels"),
                (["places 1", "levels 5", "weights 1 1 1 1 1"], "levels"),
                (["places 1", "levels 2", "weights 1"], "weights"),
                (["places 1", "levels 2", "weights 1 1 1"], "weights"),
                (["places 1", "levels 2", "weights 1 1001"], "weights"),
                (["places 2", "levels 2", "weights 1 1", "weights 1 1 1"], "weights"),
                (["places 0", "levels 2", "tie 0 1: 1 1 | 1 1"], "many")):
            self.assertEqual(number_of(joined(lines)), ("model", part))

    def test_ties_that_are_none(self):
        good = "tie 0 1: 1 1 | 1 0"
        head = ["places 4", "levels 2"] + ["weights 1 1"] * 4
        for tie in (
                "tie 2 3: 1 1", "tie 2 3: 1 1 | 1 1 | 1 1", "tie 2 3: 1 | 1", "tie 2 3: 1 1 | 1", "tie 2 3: 1 1 1 | 1",
                "tie 2 3: 1 1 | 1 1001", "tie 2 4: 1 1 | 1 1", "tie 3 2: 1 1 | 1 1", "tie 2 2: 1 1 | 1 1",
                "tie 7 9: 1 1 | 1 1", "tie 2 999999999999: 1 1 | 1 1"):
            self.assertEqual(number_of(joined(head + [tie])), ("model", 0))
            self.assertEqual(number_of(joined(head + [good, tie])), ("model", 1))
        self.assertEqual(number_of(joined(head + [good, good])), ("model", 1))
        self.assertEqual(number_of(joined(head + ["tie 0 2: 1 1 | 1 1", good])), ("model", 1))
        self.assertIsNone(number_of(joined(head + [good, "tie 2 3: 1 1 | 1 0"])))

    def test_crowded(self):
        head = ["places 6", "levels 1"] + ["weights 1"] * 6
        ties = [f"tie 0 {other}: 1" for other in range(1, 6)]
        self.assertEqual(number_of(joined(head + ties)), ("model", "crowded"))
        self.assertIsNone(number_of(joined(head + ties[:4])))


if __name__ == "__main__":
    unittest.main()
