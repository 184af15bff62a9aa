"""Words of texts and of a desk's rows, read as what they write; None stands for what writes nothing."""

from neartwins.errors import NoLine
from neartwins.fractions import NOUGHT, is_fraction
from neartwins.machines import is_mark
from neartwins.marks import is_row

FIGURES = "0123456789"
MOST_FIGURES = 3
LONGEST_NAME = 8


def room_read(word):
    """The number that one figure writes."""
    return int(word) if len(word) == 1 and word in FIGURES else None


def whole_read(word):
    """The number that one to three figures write, without a nought ahead but in 0 itself."""
    if not 1 <= len(word) <= MOST_FIGURES or not all([sign in FIGURES for sign in word]):
        return None
    return None if word[0] == "0" and word != "0" else int(word)


def fraction_read(word):
    """The fraction that is written TOP/BOTTOM, or TOP where the bottom is 1."""
    top, slash, bottom = word.partition("/")
    if slash == "":
        return None if whole_read(top) is None else (whole_read(top), 1)
    # What is no number makes no fraction, either.
    read = (whole_read(top), whole_read(bottom))
    return read if is_fraction(read) and read[1] > 1 else None


def part_read(word):
    """The tuple (room, share) that is written ROOM:SHARE, the share above nought."""
    before, colon, behind = word.partition(":")
    room = room_read(before)
    share = fraction_read(behind)
    return None if room is None or share is None or share == NOUGHT else (room, share)


def parts_read(words):
    """The list of tuples (room, share) that words write, rooms rising."""
    parts = [part_read(word) for word in words]
    if any([part is None for part in parts]):
        return None
    rooms = [room for room, share in parts]
    return parts if rooms == sorted(set(rooms)) else None


def shares_written(many, parts):
    """A list of so many shares with these parts; longer, so that it can't pass, where a part is of a room behind."""
    written = {room: share for room, share in parts}
    longest = max([many] + [room + 1 for room in written])
    return [written.get(room, NOUGHT) for room in range(longest)]


def name_read(word):
    """The name that a word is: one to eight small letters."""
    return word if 1 <= len(word) <= LONGEST_NAME and all(["a" <= sign <= "z" for sign in word]) else None


def mark_read(word):
    """The mark that a word is."""
    return word if is_mark(word) else None


def marks_read(words):
    """The row of marks that words are."""
    return words if is_row(words) else None


def text_read(word):
    """The text that is written with a line feed as a semicolon and a blank."""
    return word.replace("; ", "\n")


# What stands behind each word of a desk: names of something kept, new ones, and so on.
FORMS = {
    "keep": ("new", "text"),
    "drop": ("name",),
    "names": (),
    "shown": ("name",),
    "mark": ("name", "room", "mark"),
    "steps": ("name", "room", "parts"),
    "fade": ("name", "fraction"),
    "undo": ("name",),
    "far": ("name", "room", "room"),
    "near": ("name", "room"),
    "lumps": ("name",),
    "chance": ("name", "room", "marks"),
    "alike": ("name", "name"),
    "twin": ("name", "new"),
}
READERS = {
    "name": name_read,
    "new": name_read,
    "text": text_read,
    "room": room_read,
    "mark": mark_read,
    "fraction": fraction_read,
    "parts": parts_read,
    "marks": marks_read,
}
# These take all words that are left, one or more.
LONG_KINDS = ("parts", "marks")


def words_of(row):
    """The words of a row; all that follows keep and its name is one."""
    return row.split(" ", 2) if row.startswith("keep ") else row.split(" ")


def gathered(kinds, words):
    """The words for each of these kinds, those for a long one as a list; None where they are too few or too many."""
    if len(words) < len(kinds):
        return None
    # Only the last kind is ever a long one.
    if kinds != () and kinds[-1] in LONG_KINDS:
        singles = len(kinds) - 1
        return words[:singles] + [words[singles:]]
    return words if len(words) == len(kinds) else None


def thing_read(kind, word):
    """What a word, or a list of words, of such a kind writes."""
    reader = READERS[kind]
    return reader(word)


def line_read(row):
    """The word that a row, which may be anything, begins with, and tuples (kind, thing) of what follows it."""
    if not isinstance(row, str) or "\n" in row:
        raise NoLine("a row is a text without a line feed")
    words = words_of(row)
    if words[0] not in FORMS:
        raise NoLine("a row begins with one of the desk's words")
    kinds = FORMS[words[0]]
    groups = gathered(kinds, words[1:])
    if groups is None:
        raise NoLine("a row has too few or too many words")
    things = [(kind, thing_read(kind, group)) for kind, group in zip(kinds, groups)]
    if any([thing is None for kind, thing in things]):
        raise NoLine("a word of a row is not what must stand there")
    return words[0], things
