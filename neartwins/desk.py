"""A desk that keeps Keepers by names, is told rows of words and answers with texts."""

from neartwins.beside import alike_machines
from neartwins.errors import NoName
from neartwins.keeper import Keeper
from neartwins.marks import chance
from neartwins.reading import line_read, shares_written
from neartwins.texts import read, shown
from neartwins.writing import fraction_word

DONE = "ok"


def listed(words):
    """Words parted by blanks, or what stands for none."""
    return "-" if words == [] else " ".join(words)


def on_keep(keepers, name, text):
    """Keep a Keeper of the machine that a text writes."""
    keepers[name] = Keeper(read(text))
    return DONE


def on_drop(keepers, name):
    """Keep nothing by a name any more."""
    del keepers[name]
    return DONE


def on_names(keepers):
    """All names by which something is kept."""
    return listed(sorted(keepers))


def on_shown(keepers, name):
    """The text of a machine, on one row."""
    return shown(keepers[name].machine()).replace("\n", "; ")


def on_mark(keepers, name, room, mark):
    """The move where a mark is changed."""
    return fraction_word(keepers[name].mark(room, mark))


def on_steps(keepers, name, room, parts):
    """The move where shares are changed."""
    keeper = keepers[name]
    return fraction_word(keeper.steps(room, shares_written(len(keeper.machine()), parts)))


def on_fade(keepers, name, fade):
    """The move where the fade is changed."""
    return fraction_word(keepers[name].fade_to(fade))


def on_undo(keepers, name):
    """The move where the last deed is undone."""
    return fraction_word(keepers[name].undo())


def on_far(keepers, name, one, other):
    """How far two rooms are apart."""
    return fraction_word(keepers[name].far(one, other))


def on_near(keepers, name, room):
    """The other rooms by distance."""
    return listed([f"{other}:{fraction_word(gap)}" for gap, other in keepers[name].near(room)])


def on_lumps(keepers, name):
    """The greatest lumps."""
    return listed([",".join([str(room) for room in rooms]) for rooms in keepers[name].lumps()])


def on_chance(keepers, name, room, marks):
    """The chance of a row of marks."""
    return fraction_word(chance(keepers[name].machine(), room, marks))


def on_alike(keepers, name, other):
    """Whether two machines are alike."""
    return "yes" if alike_machines(keepers[name].machine(), keepers[other].machine()) else "no"


def on_twin(keepers, name, new):
    """Keep a twin by another name."""
    keepers[new] = keepers[name].twin()
    return DONE


ACTIONS = {
    "keep": on_keep,
    "drop": on_drop,
    "names": on_names,
    "shown": on_shown,
    "mark": on_mark,
    "steps": on_steps,
    "fade": on_fade,
    "undo": on_undo,
    "far": on_far,
    "near": on_near,
    "lumps": on_lumps,
    "chance": on_chance,
    "alike": on_alike,
    "twin": on_twin,
}


class Desk:
    """Keepers by names, none at first."""

    def __init__(self):
        self.keepers = {}

    def say(self, row):
        """The answer to a row, which may be anything."""
        word, things = line_read(row)
        for kind, thing in things:
            if kind == "name" and thing not in self.keepers:
                raise NoName(thing)
        action = ACTIONS[word]
        told = [thing for kind, thing in things]
        return action(self.keepers, *told)
