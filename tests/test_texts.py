"""Point 25, and of point 3 (h): machines written as texts, and read from them."""

import unittest
from fractions import Fraction

from neartwins.errors import NoText
from neartwins.machines import Machine
from neartwins.texts import read, shown
from tests.things import (
    NO_FRACTIONS, NO_LISTS, NO_WHOLES, Odd, check_left_alone, check_no_machine, coins, one_room, random_machines,
    telling_machines,
)

COINS = "a 0:1/2 1:1/2\nb 1:1/3 2:2/3\na 0:1/4 1:1/4 2:1/2"
# Rows that can't stand first in the text of a machine with two rooms.
WRONG_ROWS = [
    "", " ", "a", "a ", " a", "a  ", "ab cd", "0:1", "0:1 a", " 0:1", "a0:1", "a\t0:1", "\ta 0:1", "a 0:1\t",
    # Blanks too many, and other signs between words.
    "a  0:1", " a 0:1", "a 0:1 ", "a 0:1/2  1:1/2", "a 0 :1", "a 0: 1", "a 0:1 /2 1:1/2", "a 0:1/ 2 1:1/2", "a,0:1",
    "a 0:1/2,1:1/2", "a 0:1/2; 1:1/2", "a 0:1;", "a 0:1;b", "a:0:1", "a 0:1.", "a 0:1:1",
    # Marks that are none.
    "A 0:1", "abcde 0:1", "a1 0:1", "1 0:1", "- 0:1", "a-b 0:1", "aB 0:1",
    # Rooms that the machine has not, or that don't rise.
    "a 2:1", "a 0:1/2 2:1/2", "a 9:1", "a 10:1", "a -1:1", "a 1:1/2 0:1/2", "a 0:1/2 0:1/2", "a 1:1/2 1:1/2",
    "a 0:1/3 1:1/3 0:1/3", "a 0:1/4 1:1/4 2:1/2", "a x:1", "a :1", "a 0x:1", "a +0:1",
    # Noughts ahead.
    "a 00:1", "a 01:1", "a 000:1", "a 0:01", "a 0:01/2 1:1/2", "a 0:1/02 1:1/2", "a 0:001", "a 0:00", "a 0:1 1:00",
    # Shares of nought.
    "a 0:0 1:1", "a 0:1 1:0", "a 0:0", "a 0:1 1:0/1", "a 0:1 1:0/2", "a 0:0/1 1:1",
    # Bottoms of one, and of nought; not in lowest terms.
    "a 0:1/1", "a 0:2/1", "a 0:1/0", "a 0:0/0", "a 0:2/2", "a 0:2/4 1:1/2", "a 0:1/2 1:2/4", "a 0:3/6 1:3/6",
    "a 0:999/999", "a 0:10/20 1:1/2",
    # More than three figures.
    "a 0:1000", "a 0:1/1000 1:999/1000", "a 0:999/1000 1:1/1000", "a 0:1000/1000", "a 0:0001", "a 0:1000/999",
    "a 0:1/1009 1:1008/1009", "a 0:500/1001 1:501/1001",
    # Sums that are not one.
    "a 0:1/2", "a 0:1/2 1:1/3", "a 0:1 1:1", "a 0:2", "a 0:3/2", "a 0:1/2 1:1/2 1:1/2", "a 0:2 1:1", "a 1:998/999",
    "a 0:1/3 1:1/3", "a 0:999", "a 0:2/3 1:2/3", "a 0:1/2 1:501/999",
    # Other forms of fractions.
    "a 0:", "a 0:/", "a 0:1/", "a 0:/2", "a 0:1/2/1 1:1/2", "a 0:-1/2 1:3/2", "a 0:-1 1:2", "a 0:+1", "a 0:1/-2",
    "a 0:0.5 1:0.5", "a 0:1e0", "a 0:1_0", "a 0:one", "a 0:1/2 1:1\\2", "a 0:50 1:50", "a 0=1", "a 01", "a 0:1/2 1",
]


def refused(text):
    """The row with which a text is refused."""
    try:
        read(text)
    except NoText as why:
        return (why.row,)
    return None


def with_figures():
    """Machines whose shares have one, two and three figures above and below."""
    found = []
    for bottom in (2, 9, 10, 11, 99, 100, 101, 998, 999):
        for top in (1, bottom // 2, bottom - 1):
            share = Fraction(top, bottom)
            row = [(each.numerator, each.denominator) for each in (share, 1 - share)]
            found.append(Machine(["a", "zzzz"], [row, row[::-1]]))
    return found


def all_machines():
    """Machines of one to six rooms."""
    return telling_machines() + random_machines(101, 40) + with_figures() + [
        Machine([mark], [[(1, 1)]]) for mark in ("a", "z", "ab", "abc", "abcd")
    ]


class Shown(unittest.TestCase):
    def test_by_hand(self):
        self.assertEqual(shown(one_room()), "a 0:1")
        self.assertEqual(shown(coins()), COINS)
        machine = Machine(["abcd", "z"], [[(1, 999), (998, 999)], [(0, 1), (1, 1)]])
        self.assertEqual(shown(machine), "abcd 0:1/999 1:998/999\nz 1:1")

    def test_the_text_of_a_machine(self):
        for machine in all_machines():
            text = shown(machine)
            self.assertIsInstance(text, str)
            self.assertEqual(text, str(machine))
            rows = text.split("\n")
            self.assertEqual(len(rows), len(machine))
            for room, row in enumerate(rows):
                parts = [
                    f"{to}:{share[0]}" + (f"/{share[1]}" if share[1] > 1 else "")
                    for to, share in enumerate(machine.shares_of(room)) if share[0] > 0
                ]
                self.assertEqual(row, " ".join([machine.mark(room)] + parts))

    def test_refusals_and_names(self):
        check_no_machine(self, shown)
        self.assertEqual(shown(machine=coins()), COINS)
        check_left_alone(self, shown, coins())


class Read(unittest.TestCase):
    def test_what_is_written_is_read_back(self):
        for machine in all_machines():
            told = read(shown(machine))
            self.assertIsInstance(told, Machine)
            self.assertEqual(told, machine)
            self.assertEqual(shown(told), shown(machine))

    def test_by_hand(self):
        self.assertEqual(read(COINS), coins())
        self.assertEqual(read("a 0:1"), one_room())
        self.assertEqual(read(text="a 0:1"), one_room())
        six = "\n".join(f"{'abcdef'[room]} {room}:1" for room in range(6))
        self.assertEqual(len(read(six)), 6)

    def test_no_text(self):
        for thing in NO_LISTS + NO_FRACTIONS + NO_WHOLES + [COINS.encode(), [COINS], (COINS,), coins(), Odd(), str]:
            if not isinstance(thing, str):
                self.assertEqual(refused(thing), (0,))

    def test_more_than_six_rows(self):
        rows = [f"a {room}:1" for room in range(7)]
        self.assertIsNone(refused("\n".join(rows[:6])))
        self.assertEqual(refused("\n".join(rows)), (6,))
        self.assertEqual(refused("\n".join(rows[:6]) + "\n"), (6,))
        self.assertEqual(refused("\n" * 6), (6,))
        self.assertEqual(refused("\n" * 3000), (6,))
        self.assertEqual(refused("\n".join(["wrong"] + rows)), (6,))
        self.assertEqual(refused("\n".join(["wrong"] + rows[:5])), (0,))

    def test_empty_rows(self):
        self.assertEqual(refused(""), (0,))
        self.assertEqual(refused("\n"), (0,))
        self.assertEqual(refused("\n" * 5), (0,))
        self.assertEqual(refused("a 0:1\n"), (1,))
        self.assertEqual(refused("\na 0:1"), (0,))
        self.assertEqual(refused("a 0:1\n\nb 2:1"), (1,))
        self.assertEqual(refused(COINS + "\n"), (3,))
        self.assertEqual(refused(COINS + "\n\n"), (3,))

    def test_wrong_rows(self):
        good = "b 0:1/2 1:1/2"
        self.assertIsNone(refused(good + "\n" + good))
        for row in WRONG_ROWS:
            with self.subTest(row):
                self.assertEqual(refused(row + "\n" + good), (0,))
                self.assertEqual(refused(good + "\n" + row), (1,))
                self.assertEqual(refused(row + "\n" + row), (0,))
                self.assertEqual(refused(row), (0,))
                # In a machine with three rooms some of these are no longer wrong.
                if " 2:" not in row:
                    self.assertEqual(refused(good + "\n" + row + "\n" + good), (1,))

    def test_as_many_rooms_as_rows(self):
        row = "a 0:1/3 1:1/3 2:1/3"
        self.assertEqual(refused(row), (0,))
        self.assertEqual(refused("a 0:1\n" + row), (1,))
        self.assertEqual(refused(row + "\na 0:1"), (0,))
        self.assertIsNone(refused("\n".join(["a 0:1", "b 1:1", row])))
        self.assertEqual(refused("a 1:1"), (0,))
        self.assertIsNone(refused("a 1:1\na 1:1"))
        for many in range(1, 7):
            for room in range(10):
                text = "\n".join(["a 0:1"] * (many - 1) + [f"a {room}:1"])
                self.assertEqual(refused(text), None if room < many else (many - 1,))

    def test_the_first_is_told(self):
        self.assertEqual(refused("a 0:1\nb 1:2\nC 2:1"), (1,))
        self.assertEqual(refused("a 0:1\nb 1:1\nC 2:1\n"), (2,))

    def test_each_sign_changed(self):
        signs = [chr(code) for code in [9, 10] + list(range(32, 127))]
        text = "ab 0:2/3 1:1/3\nz 1:1"
        for place in range(len(text)):
            for changed in [text[:place] + text[place + 1:]] + [text[:place] + sign + text[place + 1:] for sign in signs]:
                why = refused(changed)
                if why is None:
                    self.assertEqual(shown(read(changed)), changed)
                else:
                    self.assertLess(why[0], changed.count("\n") + 1)

    def test_signs_put_in(self):
        text = "ab 0:2/3 1:1/3\nz 1:1"
        for place in range(len(text) + 1):
            for sign in "\t\n /0123456789:;abzZ~-+":
                changed = text[:place] + sign + text[place:]
                if refused(changed) is None:
                    self.assertEqual(shown(read(changed)), changed)

    def test_long_texts(self):
        for text in ("a" * 4000, "a 0:1 " * 600, " " * 4000, "a " + "0:1/2 " * 600, "a 0:" + "1" * 3900):
            self.assertEqual(refused(text), (0,))


if __name__ == "__main__":
    unittest.main()
