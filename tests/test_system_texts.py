"""Promise 1.3: systems as texts, and read from texts."""

import unittest

from asifforever.errors import BadLine, BadSystem
from asifforever.systems import System, read_system, spread_behind, system_text
from things import SWAP, TWO, TWO_LOTS, any_systems, long_system, odd_things


def line_of(text):
    """The number that BadLine tells of a text, None if it is read."""
    try:
        read_system(text)
    except BadLine as wrong:
        return wrong.number
    return None


def part_of(text):
    """The part that BadSystem tells of a text, None if it is read."""
    try:
        read_system(text)
    except BadSystem as wrong:
        return wrong.part
    return None


def decimal(number):
    """The figures of a number, one at a time."""
    figures = []
    while number:
        number, figure = divmod(number, 10 ** 9)
        figures.append(str(figure).zfill(9))
    return "".join(reversed(figures)).lstrip("0") or "0"


class TextTest(unittest.TestCase):
    def test_e01(self):
        self.assertEqual(system_text(TWO), "states 2\n1/3: 1 0\n2/3: 0 0\n")

    def test_whole_share_and_greater_states(self):
        self.assertEqual(system_text(SWAP), "states 2\n1: 1 0\n")
        turn = tuple(range(1, 12)) + (0,)
        self.assertEqual(
            system_text(System(12, (((1, 1), turn),))), "states 12\n1: 1 2 3 4 5 6 7 8 9 10 11 0\n")
        self.assertEqual(
            system_text(System(1, (((1, 10), (0,)), ((9, 10), (0,))))), "states 1\n1/10: 0\n9/10: 0\n")

    def test_there_and_back(self):
        greatest = ((1, 999999999999), (999999999998, 999999999999))
        for system in any_systems(4, 200, 12) + [
                TWO, SWAP, TWO_LOTS, long_system(), System(2, tuple((share, (1, 0)) for share in greatest)),
                System(12, (((1, 24), tuple(range(12))),) * 24)]:
            again = read_system(system_text(system))
            self.assertTrue(again == system)
            self.assertEqual(system_text(again), system_text(system))

    def test_very_long_shares_are_written_out(self):
        behind = spread_behind(long_system(), ((1, 1),) + ((0, 1),) * 11, 60)
        system = System(2, tuple((share, (0, 1)) for share in behind))
        lines = [f"{decimal(top)}/{decimal(bottom)}: 0 1\n" for top, bottom in behind]
        self.assertGreater(len(lines[0]), 9000)
        self.assertEqual(system_text(system), "states 2\n" + "".join(lines))
        # These numbers have more than the 12 figures of a line's form.
        self.assertEqual(line_of(system_text(system)), 2)

    def test_noughts_within_long_numbers(self):
        for power in (1, 59, 60, 61, 119, 120, 121, 180):
            bottom = 10 ** power
            system = System(1, (((1, bottom), (0,)), ((bottom - 1, bottom), (0,))))
            noughts = "0" * power
            self.assertEqual(system_text(system), f"states 1\n1/1{noughts}: 0\n{'9' * power}/1{noughts}: 0\n")


class ReadTest(unittest.TestCase):
    def test_no_string(self):
        for thing in odd_things():
            if not isinstance(thing, str):
                self.assertEqual(line_of(thing), 0)
        self.assertEqual(line_of(b"states 1\n1: 0\n"), 0)
        self.assertEqual(line_of(["states 1\n", "1: 0\n"]), 0)

    def test_first_line(self):
        for line in (
                "", " ", "states", "states ", "states  2", " states 2", "states 2 ", "states 2 2", "state 2", "States 2",
                "states2", "states 02", "states 00", "states +2", "states -2", "states 2.", "states two", "states 2/1",
                "states 1000000000000", "states 0000000000002", "states states 2", "2", "1: 0", "states 2,", "states 1_0",
                "states: 2"):
            self.assertEqual(line_of(line + "\n1: 0 1\n"), 1, line)
            self.assertEqual(line_of(line + "\n"), 1, line)
            self.assertEqual(line_of(line + "\nwrong\nwrong"), 1, line)

    def test_lines_of_moves(self):
        for line in (
                "", " ", "1", "1:", "1: ", "1:0 1", "1:  0 1", "1 : 0 1", " 1: 0 1", "1: 0  1", "1: 0 1 ", "1: 0,1",
                "1: 0 01", "1: 00 1", "1: +0 1", "1: -0 1", "1: 0 -1", "1: 0 a", "1: 0 1/1", "1: 0: 1", "1:: 0 1",
                "01: 0 1", "+1: 0 1", "-1: 0 1", "1/: 0 1", "/1: 0 1", "/: 0 1", ": 0 1", "1//2: 0 1", "1/2/3: 0 1",
                "2/4: 0 1", "2/2: 0 1", "0/2: 0 1", "1/0: 0 1", "0/0: 0 1", "1/1: 0 1", "2/1: 0 1", "0/1: 0 1",
                "01/2: 0 1", "1/02: 0 1", "1/+2: 0 1", "-1/2: 0 1", "1/-2: 0 1", "1 /2: 0 1", "1/ 2: 0 1", "0.5: 0 1",
                "1/2000000000001: 0 1", "1000000000001/2: 0 1", "1000000000000: 0 1", "1: 0 1000000000000", "states 2",
                "a: 0 1", "1: a", "1/2 0 1", "1/2:", "1/2: "):
            self.assertEqual(line_of("states 2\n" + line + "\n"), 2, line)
            self.assertEqual(line_of("states 2\n1/2: 0 1\n" + line + "\n1/2: 0 1\n"), 3, line)
            self.assertEqual(line_of("states 2\n1/2: 0 1\n" + line + "\nwrong\n"), 3, line)
            self.assertEqual(line_of("states 2\n1/2: 0 1\n1/2: 0 1\n" + line + "\nrest"), 4, line)

    def test_every_line_is_counted(self):
        lines = ["states 2"] + ["1/24: 0 1"] * 24
        for at in range(25):
            wrong = lines[:at] + ["wrong"] + lines[at + 1:]
            self.assertEqual(line_of("".join(line + "\n" for line in wrong)), at + 1)

    def test_something_behind_the_last_line_feed(self):
        for rest in (" ", "1", "1: 0 1", "1/2: 0 1", "wrong"):
            self.assertEqual(line_of("states 2\n1: 0 1\n" + rest), 3)
            self.assertEqual(line_of("states 2\n" + rest), 2)
        self.assertEqual(line_of("states 2\n1: 0 1\n\n"), 3)

    def test_the_last_line_feed_lacking(self):
        self.assertEqual(line_of("states 2\n1/3: 1 0\n2/3: 0 0"), 3)
        self.assertEqual(line_of("states 2\n1: 1 0"), 2)
        self.assertEqual(line_of("states 2"), 1)

    def test_first_line_lacking(self):
        self.assertEqual(line_of(""), 1)
        self.assertEqual(line_of("\n"), 1)
        self.assertEqual(line_of("rest"), 1)

    def test_twelve_figures(self):
        self.assertEqual(part_of("states 999999999999\n1: 0\n"), "many")
        self.assertEqual(part_of("states 2\n1: 0 999999999999\n"), 0)
        self.assertEqual(part_of("states 1\n999999999999: 0\n"), "shares")
        self.assertEqual(part_of("states 1\n1/2: 0\n999999999999/2: 0\n"), "shares")
        self.assertIsNone(part_of("states 1\n1/999999999999: 0\n999999999998/999999999999: 0\n"))
        self.assertEqual(line_of("states 1999999999999\n1: 0\n"), 1)
        self.assertEqual(line_of("states 2\n1: 0 1999999999999\n"), 2)
        self.assertEqual(line_of("states 1\n1999999999999: 0\n"), 2)
        self.assertEqual(line_of("states 1\n1/1999999999999: 0\n"), 2)

    def test_bad_systems(self):
        self.assertEqual(part_of("states 0\n1: 0\n"), "many")
        self.assertEqual(part_of("states 13\n1: 0\n"), "many")
        self.assertEqual(part_of("states 0\n"), "many")
        self.assertEqual(part_of("states 2\n"), "moves")
        self.assertEqual(part_of("states 2\n" + "1/25: 0 1\n" * 25), "moves")
        self.assertIsNone(part_of("states 2\n" + "1/24: 0 1\n" * 24))
        self.assertEqual(part_of("states 2\n1: 0\n"), 0)
        self.assertEqual(part_of("states 2\n1: 0 1 0\n"), 0)
        self.assertEqual(part_of("states 2\n1/2: 0 1\n1/2: 0 2\n"), 1)
        self.assertEqual(part_of("states 2\n0: 0 1\n1: 0 1\n"), 0)
        self.assertEqual(part_of("states 2\n1/2: 0 1\n1/3: 0 1\n"), "shares")
        self.assertEqual(part_of("states 2\n3/2: 0 1\n"), "shares")

    def test_lines_are_looked_at_before_the_system(self):
        self.assertEqual(line_of("states 13\n1: 0\nwrong\n"), 3)
        self.assertEqual(line_of("states 2\n1/2: 0 5\n1/2: 0 01\n"), 3)
        self.assertEqual(line_of("states 13\n1: 0\nrest"), 3)

    def test_long_texts(self):
        self.assertEqual(line_of("\n" * 40000), 1)
        self.assertEqual(part_of("states 1\n" + "1: 0\n" * 7998), "moves")
        self.assertEqual(line_of("states 1\n" + "1: 0\n" * 7990 + "x"), 7992)
        self.assertEqual(part_of("states 1\n1:" + " 0" * 19990 + "\n"), 0)
        self.assertEqual(line_of("9" * 40000), 1)
        self.assertEqual(line_of("states " + "9" * 39990 + "\n"), 1)


if __name__ == "__main__":
    unittest.main()
