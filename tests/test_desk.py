"""Point 26: a desk that is told rows of words."""

import random
import unittest

from neartwins.beside import alike_machines
from neartwins.desk import Desk
from neartwins.errors import NoDeed, NoFade, NoLine, NoName, NoRoom, NoShares, NoText
from neartwins.keeper import Keeper
from neartwins.machines import Machine
from neartwins.marks import chance
from neartwins.texts import shown
from tests.things import (
    FADES, NO_FRACTIONS, NO_LISTS, NO_WHOLES, Odd, coins, great_figures, lasting, one_room, random_machines,
    random_shares, telling_machines, with_twins,
)

LASTING = "a 0:1/2 2:1/2; a 1:1; b 2:1"


def on_one_row(machine):
    """The text of a machine as a desk is told it."""
    return shown(machine).replace("\n", "; ")


def word(one):
    """A fraction as it is written."""
    return f"{one[0]}/{one[1]}" if one[1] != 1 else str(one[0])


def desk_with(**machines):
    """A desk that keeps these machines by their names."""
    desk = Desk()
    for name, machine in machines.items():
        desk.say(f"keep {name} {on_one_row(machine)}")
    return desk


def all_told(desk):
    """All that a desk tells without a deed, and what is still to be undone by twins of what it keeps."""
    names = desk.say("names").split(" ")
    told = [names]
    for name in names if names != ["-"] else []:
        told += [desk.say(f"{each} {name}") for each in ("shown", "lumps")]
        rooms = range(len(told[-2].split("; ")))
        told += [desk.say(f"near {name} {room}") for room in rooms]
        told += [desk.say(f"far {name} {one} {other}") for one in rooms for other in rooms]
        keeper = desk.keepers[name]
        told += [repr(keeper), len(keeper)]
    return told


class Rows(unittest.TestCase):
    def test_names(self):
        desk = Desk()
        self.assertEqual(desk.say("names"), "-")
        for name in ("b", "ab", "zzzzzzzz", "a", "abcdefgh"):
            self.assertEqual(desk.say(f"keep {name} a 0:1"), "ok")
        self.assertEqual(desk.say("names"), "a ab abcdefgh b zzzzzzzz")

    def test_keep_and_shown(self):
        for machine in telling_machines() + random_machines(111, 10):
            desk = Desk()
            text = on_one_row(machine)
            self.assertEqual(desk.say(f"keep a {text}"), "ok")
            self.assertEqual(desk.say("shown a"), text)
            self.assertEqual(desk.keepers["a"], Keeper(machine, (1, 2)))
        self.assertEqual(desk_with(a=lasting()).say("shown a"), LASTING)
        self.assertEqual(desk_with(a=one_room()).say("shown a"), "a 0:1")

    def test_keep_in_the_stead_of_one_there(self):
        desk = desk_with(a=lasting(), b=coins())
        desk.say("fade a 2/3")
        self.assertEqual(desk.say("keep a a 0:1"), "ok")
        self.assertEqual(desk.say("names"), "a b")
        self.assertEqual(desk.say("shown a"), "a 0:1")
        with self.assertRaises(NoDeed):
            desk.say("undo a")
        desk.say(f"keep a {LASTING}")
        self.assertEqual(desk.say("far a 0 1"), "1/3")

    def test_drop(self):
        desk = desk_with(a=lasting(), b=coins())
        self.assertEqual(desk.say("drop a"), "ok")
        self.assertEqual(desk.say("names"), "b")
        with self.assertRaises(NoName) as caught:
            desk.say("shown a")
        self.assertEqual(caught.exception.name, "a")
        self.assertEqual(desk.say("drop b"), "ok")
        self.assertEqual(desk.say("names"), "-")
        with self.assertRaises(NoName):
            desk.say("drop b")
        self.assertEqual(desk.say("keep a a 0:1"), "ok")

    def test_deeds_tell_the_move(self):
        desk = desk_with(a=lasting())
        self.assertEqual(desk.say("fade a 2/3"), "1/6")
        self.assertEqual(desk.say("fade a 2/3"), "0")
        self.assertEqual(desk.say("steps a 1 0:1"), "1/6")
        self.assertEqual(desk.say("shown a"), "a 0:1/2 2:1/2; a 0:1; b 2:1")
        self.assertEqual(desk.say("mark a 2 a"), "1")
        self.assertEqual(desk.say("shown a"), "a 0:1/2 2:1/2; a 0:1; a 2:1")
        self.assertEqual([desk.say("undo a") for deed in range(4)], ["1", "1/6", "0", "1/6"])
        self.assertEqual(desk.say("shown a"), LASTING)
        self.assertEqual(desk.say("far a 0 1"), "1/3")

    def test_steps(self):
        desk = desk_with(a=lasting())
        for parts in ("0:1/3 1:1/3 2:1/3", "0:1", "2:1", "0:998/999 2:1/999", "1:1/2 2:1/2"):
            keeper = desk.keepers["a"].twin()
            shares = [(0, 1)] * 3
            for part in parts.split(" "):
                room, share = part.split(":")
                top, slash, bottom = share.partition("/")
                shares[int(room)] = (int(top), int(bottom or 1))
            self.assertEqual(desk.say(f"steps a 1 {parts}"), word(keeper.steps(1, shares)))
            self.assertEqual(desk.keepers["a"], keeper)

    def test_far_near_and_lumps(self):
        desk = desk_with(a=lasting(), b=one_room(), c=with_twins(), d=Machine(["a"] * 6, [[(1, 6)] * 6] * 6))
        self.assertEqual(desk.say("far a 0 1"), "1/3")
        self.assertEqual([desk.say("far a 0 0"), desk.say("far a 2 1"), desk.say("far a 1 0")], ["0", "1", "1/3"])
        self.assertEqual(desk.say("near a 0"), "1:1/3 2:1")
        self.assertEqual(desk.say("near a 2"), "0:1 1:1")
        self.assertEqual(desk.say("near b 0"), "-")
        self.assertEqual(desk.say("near d 3"), "0:0 1:0 2:0 4:0 5:0")
        self.assertEqual(desk.say("lumps a"), "0 1 2")
        self.assertEqual(desk.say("lumps b"), "0")
        self.assertEqual(desk.say("lumps c"), "0,3 1,4 2 5")
        self.assertEqual(desk.say("lumps d"), "0,1,2,3,4,5")

    def test_chance(self):
        desk = desk_with(a=lasting())
        self.assertEqual(desk.say("chance a 0 a"), "1")
        self.assertEqual(desk.say("chance a 0 b"), "0")
        self.assertEqual(desk.say("chance a 0 a a b"), "1/4")
        self.assertEqual(desk.say("chance a 0 a a a a a a a a"), "1/128")
        self.assertEqual(desk.say("chance a 2 b b zzzz"), "0")

    def test_alike(self):
        desk = desk_with(a=one_room(), b=Machine(["a"] * 2, [[(1, 2)] * 2] * 2), c=lasting(), d=with_twins())
        self.assertEqual([desk.say(f"alike a {name}") for name in "abcd"], ["yes", "yes", "no", "no"])
        self.assertEqual([desk.say(f"alike {name} a") for name in "abcd"], ["yes", "yes", "no", "no"])
        self.assertEqual([desk.say("alike c d"), desk.say("alike d d")], ["no", "yes"])

    def test_twin(self):
        desk = desk_with(a=lasting(), b=coins())
        desk.say("fade a 2/3")
        self.assertEqual(desk.say("twin a new"), "ok")
        self.assertEqual(desk.say("names"), "a b new")
        self.assertEqual(desk.say("twin a b"), "ok")
        self.assertEqual(desk.say("shown b"), LASTING)
        self.assertEqual(desk.say("far b 0 1"), "1/2")
        self.assertEqual(desk.say("undo b"), "1/6")
        self.assertEqual([desk.say(f"far {name} 0 1") for name in ("a", "b", "new")], ["1/2", "1/3", "1/2"])
        self.assertEqual(desk.say("drop a"), "ok")
        self.assertEqual(desk.say("undo new"), "1/6")
        self.assertEqual(desk.say("fade b 2/3"), "1/6")
        self.assertEqual(desk.say("twin b b"), "ok")
        self.assertEqual(desk.say("undo b"), "1/6")

    def test_as_many_figures_as_there_are(self):
        desk = desk_with(a=great_figures())
        keeper = Keeper(great_figures())
        self.assertEqual(desk.say("fade a 998/999"), word(keeper.fade_to((998, 999))))
        self.assertEqual(desk.say("far a 0 1"), word(keeper.far(0, 1)))
        self.assertGreater(len(desk.say("far a 0 1")), 100)
        near = [f"{room}:{word(gap)}" for gap, room in keeper.near(2)]
        self.assertEqual(desk.say("near a 2"), " ".join(near))
        marks = ["a"] * 8
        self.assertEqual(desk.say("chance a 3 " + " ".join(marks)), word(chance(great_figures(), 3, marks)))
        self.assertGreater(len(desk.say("chance a 3 " + " ".join(marks))), 100)

    def test_two_desks(self):
        one, other = desk_with(a=lasting()), desk_with(a=coins(), b=one_room())
        one.say("fade a 2/3")
        one.say("drop a")
        self.assertEqual((one.say("names"), other.say("names")), ("-", "a b"))
        self.assertEqual(other.say("shown a"), on_one_row(coins()))
        self.assertEqual(other.keepers["a"].fade(), (1, 2))

    def test_whatever_is_said(self):
        source = random.Random(112)
        for seed in range(6):
            desk, kept = Desk(), {}
            for machine, name in zip(random_machines(113 + seed, 3), ("a", "b", "longname")):
                desk.say(f"keep {name} {on_one_row(machine)}")
                kept[name] = Keeper(machine)
            for turn in range(60):
                name, other = source.choice(sorted(kept)), source.choice(sorted(kept))
                keeper = kept[name]
                many = len(keeper.machine())
                room, to = source.randrange(many), source.randrange(many)
                mark = source.choice(["a", "b", "zzzz"])
                shares = random_shares(source, many, source.choice([1, 2, 3, 999]))
                parts = " ".join(f"{at}:{word(share)}" for at, share in enumerate(shares) if share[0])
                fade = source.choice(FADES)
                row, answer = source.choice([
                    (f"mark {name} {room} {mark}", lambda: word(keeper.mark(room, mark))),
                    (f"steps {name} {room} {parts}", lambda: word(keeper.steps(room, shares))),
                    (f"fade {name} {word(fade)}", lambda: word(keeper.fade_to(fade))),
                    (f"undo {name}", lambda: word(keeper.undo())),
                    (f"far {name} {room} {to}", lambda: word(keeper.far(room, to))),
                    (f"near {name} {room}", lambda: " ".join(
                        f"{each}:{word(gap)}" for gap, each in keeper.near(room)
                    ) or "-"),
                    (f"lumps {name}", lambda: " ".join(",".join(map(str, rooms)) for rooms in keeper.lumps())),
                    (f"chance {name} {room} {mark} a", lambda: word(chance(keeper.machine(), room, [mark, "a"]))),
                    (f"alike {name} {other}", lambda: (
                        "yes" if alike_machines(keeper.machine(), kept[other].machine()) else "no"
                    )),
                    (f"twin {name} {other}", lambda: kept.update({other: keeper.twin()}) or "ok"),
                    (f"shown {name}", lambda: on_one_row(keeper.machine())),
                ])
                try:
                    expected = answer()
                except NoDeed:
                    with self.assertRaises(NoDeed):
                        desk.say(row)
                else:
                    self.assertEqual(desk.say(row), expected, row)
                self.assertEqual(desk.keepers, kept)
                self.assertEqual([len(desk.keepers[each]) for each in kept], [len(kept[each]) for each in kept])


# Rows that are none, whatever is kept by a and b.
NO_ROWS = [
    # Words too few, too many or without signs.
    "", " ", "  ", "a", "keep", "keep ", "keep a", "keep  a", "keep  a a 0:1", " keep a a 0:1", "keep\ta a 0:1", "keepa a",
    "drop", "drop ", "drop a ", "drop a b", " drop a", "drop  a", "dropa", "drop\ta", "names ", " names", "names a", "name",
    "Names", "names -", "shown", "shown ", "shown a b", "shown a ", "undo", "undo a 1", "undo a ", "undo  a", "lumps",
    "lumps a 0", "lumps a ", "near", "near a", "near a ", "near a 0 1", "near a 0 ", "near  a 0", "near a  0", "far",
    "far a", "far a 0", "far a 0 ", "far a 0 1 2", "far a 0  1", "far a 0 1 ", "mark", "mark a", "mark a 0", "mark a 0 ",
    "mark a 0 b c", "mark a 0 b ", "mark a  0 b", "steps", "steps a", "steps a 0", "steps a 0 ", "steps a 0  0:1",
    "steps a 0 0:1 ", "steps a 0 0:1/2  1:1/2", "steps a 0:1", "steps a 0:1 0", "fade", "fade a", "fade a ",
    "fade a 1/2 1/3", "fade a 1/2 ", "fade a  1/2", "fade 1/2", "chance", "chance a", "chance a 0", "chance a 0 ",
    "chance a 0 a ", "chance a 0  a", "chance a 0 a  b", "chance a a", "alike", "alike a", "alike a ", "alike a b a",
    "alike a b ", "alike a  b", "twin", "twin a", "twin a ", "twin a b c", "twin a  b", "twin a b ",
    # Names that are none.
    "keep A a 0:1", "keep abcdefghi a 0:1", "keep a1 a 0:1", "keep - a 0:1", "keep a; a 0:1", "drop A", "drop abcdefghi",
    "drop a1", "drop -", "drop 0", "shown A", "undo 1", "lumps a-b", "mark A 0 b", "steps A 0 0:1", "fade A 1/2", "far A 0 1",
    "near A 0", "chance A 0 a", "alike A a", "alike a A", "alike a abcdefghi", "twin A b", "twin a B", "twin a abcdefghi",
    "twin a 1", "twin a ab1",
    # Rooms that aren't one figure.
    "mark a 00 b", "mark a x b", "mark a 10 b", "mark a -1 b", "mark a +1 b", "mark a 0: b", "steps a 00 0:1", "steps a a 0:1",
    "steps a 10 0:1", "far a 00 1", "far a 0 01", "far a x 1", "far a 0 x", "far a 10 0", "far a 0 10", "far a -1 0",
    "far a 0, 1", "near a 00", "near a 12", "near a a", "near a -1", "near a 0:1", "chance a 00 a", "chance a 11 a",
    "chance a a a",
    # Marks that are none, and too many.
    "mark a 0 B", "mark a 0 abcde", "mark a 0 a1", "mark a 0 0", "mark a 0 -", "mark a 0 a,b", "chance a 0 A",
    "chance a 0 abcde", "chance a 0 a B", "chance a 0 a a1", "chance a 0 a 0", "chance a 0 a,b",
    "chance a 0 a a a a a a a a a", "chance a 0 a a a a a a a a B", "chance a 9 a a a a a a a a a",
    # Fractions that aren't written so, or by more than three figures.
    "fade a 2/4", "fade a 1/1", "fade a 2/1", "fade a 0/1", "fade a 0/2", "fade a 1/0", "fade a 01/2", "fade a 1/02",
    "fade a 00", "fade a 01", "fade a 000", "fade a -1/2", "fade a +1/2", "fade a 1/-2", "fade a 1/1000", "fade a 999/1000",
    "fade a 1000", "fade a 1000/999", "fade a 0001", "fade a 0.5", "fade a 1/", "fade a /2", "fade a /", "fade a 1/2/3",
    "fade a half", "fade a (1,2)", "fade a None", "fade a 1 /2", "fade a 1/ 2", "fade a 1:2", "fade a 1_0/21",
    # Parts that aren't written so, don't rise, or are of nought.
    "steps a 0 0", "steps a 0 1", "steps a 0 0:", "steps a 0 :1", "steps a 0 :", "steps a 0 0:0", "steps a 0 0:1 1:0",
    "steps a 0 0:0/1 1:1", "steps a 0 0:1/1", "steps a 0 0:2/4 1:1/2", "steps a 0 0:01", "steps a 0 00:1", "steps a 0 10:1",
    "steps a 0 1:1/2 0:1/2", "steps a 0 0:1/2 0:1/2", "steps a 0 0:1/3 1:1/3 1:1/3", "steps a 0 2:1/3 1:1/3 0:1/3",
    "steps a 0 0:1/1000 1:999/1000", "steps a 0 0:1000", "steps a 0 0:-1", "steps a 0 0:1:1", "steps a 0 0:1,1:1",
    "steps a 0 x:1", "steps a 0 0:x", "steps a 0 0=1", "steps a 0 0:1/2 b", "steps a 0 b 0:1", "steps a 0 9:1 8:1",
    "steps a 0 -:1", "steps a 0 0:1/2; 1:1/2", "steps a 0 0:1/2 1/2",
    # Other words.
    "Keep a a 0:1", "KEEP a a 0:1", "kept a", "hello", "help", "table a", "worths a", "machine a", "a names", "a drop",
    "drop, a", "names;", "name s", "~", "fade_to a 1/2", "read a 0:1", "rename a b", "\t", "names\t", "\tnames",
]


class Refusals(unittest.TestCase):
    def setUp(self):
        self.desk = desk_with(a=lasting(), b=coins())
        self.desk.say("fade a 2/3")
        self.before = all_told(self.desk)

    def tearDown(self):
        self.assertEqual(all_told(self.desk), self.before)
        self.assertEqual(self.desk.say("undo a"), "1/6")
        for name in ("a", "b"):
            with self.assertRaises(NoDeed):
                self.desk.say(f"undo {name}")

    def refused(self, said, kind, **values):
        """That what is said is refused so."""
        with self.subTest(said), self.assertRaises(kind) as caught:
            self.desk.say(said)
        for name, value in values.items():
            self.assertEqual(getattr(caught.exception, name), value)
            self.assertIsInstance(getattr(caught.exception, name), value.__class__)

    def test_no_text(self):
        for thing in NO_LISTS + NO_FRACTIONS + NO_WHOLES + [b"names", ["names"], ("names",), {"names": 1}, Odd(), Desk()]:
            if not isinstance(thing, str):
                with self.assertRaises(NoLine):
                    self.desk.say(thing)

    def test_line_feeds(self):
        for row in (
            "names\n", "\nnames", "\n", "drop a\n", "drop\na", "keep a a 0:1\n", "keep a a 0:1\nb 1:1", "keep a\na 0:1",
            "keep a \n", "keep c " + shown(lasting()), "shown a\nnames", "chance a 0 a\nb",
        ):
            self.refused(row, NoLine)

    def test_rows_that_are_none(self):
        for row in NO_ROWS:
            self.refused(row, NoLine)

    def test_rows_that_are_none_ahead_of_names(self):
        for row in NO_ROWS:
            self.refused(row.replace(" a ", " nobody "), NoLine)

    def test_names(self):
        for row in (
            "drop {}", "shown {}", "undo {}", "lumps {}", "near {} 0", "near {} 9", "far {} 0 1", "far {} 9 9",
            "mark {} 0 a", "mark {} 9 a", "steps {} 0 0:1", "steps {} 9 0:1/2", "fade {} 1/2", "fade {} 7",
            "chance {} 0 a", "chance {} 9 a b", "alike {} a", "alike a {}", "alike {} {}", "twin {} a", "twin {} {}",
            "twin {} new",
        ):
            for name in ("c", "nobody", "zzzzzzzz"):
                self.refused(row.format(name, name), NoName, name=name)
        self.refused("alike x y", NoName, name="x")
        self.refused("alike b y", NoName, name="y")
        self.refused("twin x y", NoName, name="x")

    def test_texts(self):
        for text, row in (
            ("", 0), (" ", 0), (" a 0:1", 0), ("  ", 0), ("a", 0), ("a 0:1 ", 0), ("a 0:1;", 0), ("a 0:1; ", 1), ("; ", 0),
            (";", 0), ("a 0:1;b 1:1", 0), ("a 0:1;  b 1:1", 1), ("a 0:1 ; b 1:1", 0), ("a 0:1; b 1:1; ", 2),
            ("a 0:1; b 1:2; C", 1), ("a 0:1; ; b 1:1", 1), ("a 1:1", 0), ("A 0:1", 0), ("a 0:1/1", 0), ("a 00:1", 0),
            ("a 0:1; " * 6 + "a 0:1", 6), ("; " * 6, 6), ("; " * 5, 0), ("a 0:1;; b 1:1", 0), ("a\t0:1", 0),
            ("a 0:2/4 1:1/2; a 1:1", 0), ("a 0:1; b 0:1/2", 1), ("a 0:1/1000 1:999/1000; b 1:1", 0), ("0:1", 0),
        ):
            for name in ("a", "b", "c"):
                self.refused(f"keep {name} {text}", NoText, row=row)

    def test_rooms(self):
        for room in range(3, 10):
            for row in (
                "mark a {} b", "steps a {} 0:1", "steps a {} 0:1/2", "steps a {} 7:1", "far a {} 0", "far a 0 {}",
                "far a {} 9", "near a {}", "chance a {} a", "chance a {} a b zzzz",
            ):
                self.refused(row.format(room), NoRoom, room=room)

    def test_shares(self):
        for parts in (
            "0:1/2", "0:1/2 1:1/3", "0:1 1:1", "0:2", "0:3/2", "3:1", "9:1", "0:1/2 3:1/2", "0:1/2 1:1/2 9:1/2", "0:999",
            "0:1/999", "0:1 9:1", "0:1/3 1:1/3 2:1/3 3:1/3", "0:1 1:1 2:1 3:1 4:1 5:1 6:1 7:1 8:1 9:1",
        ):
            for room in range(3):
                self.refused(f"steps a {room} {parts}", NoShares)

    def test_fades(self):
        for fade in ("0", "1", "2", "999", "3/2", "999/998", "999/2"):
            self.refused(f"fade a {fade}", NoFade)

    def test_nothing_to_undo(self):
        self.refused("undo b", NoDeed)

    def test_an_empty_desk(self):
        desk = Desk()
        for row in NO_ROWS:
            with self.subTest(row), self.assertRaises(NoLine):
                desk.say(row)
        for row in ("drop a", "shown a", "undo a", "far a 0 0", "twin a b"):
            with self.assertRaises(NoName):
                desk.say(row)
        self.assertEqual(desk.say("names"), "-")

    def test_every_sign_put_in_or_left_out(self):
        rows = (
            "names", "shown a", "mark a 0 b", "steps a 0 0:1/2 1:1/2", "fade a 2/3", "far a 0 1", "chance a 0 a b",
            "alike a b", "near a 1",
        )
        for row in rows:
            for place in range(len(row) + 1):
                tries = [row[:place] + row[place + 1:]] + [row[:place] + sign + row[place:] for sign in " \t\n;:/-0Z%~"]
                for each in tries:
                    desk = desk_with(a=lasting(), b=coins())
                    try:
                        self.assertIsInstance(desk.say(each), str)
                    except (NoLine, NoName, NoRoom, NoShares, NoFade):
                        self.assertEqual(desk.keepers, desk_with(a=lasting(), b=coins()).keepers)

    def test_by_name(self):
        self.assertEqual(self.desk.say(row="names"), "a b")
        self.assertIn("say", vars(Desk))


if __name__ == "__main__":
    unittest.main()
