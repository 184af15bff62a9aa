"""How fractions and the rows of a machine's text are written."""


def fraction_word(one):
    """A fraction as TOP/BOTTOM, or as TOP where the bottom is 1."""
    top, bottom = one
    if bottom == 1:
        return str(top)
    return f"{top}/{bottom}"


def room_row(mark, shares):
    """The row of a room: its mark, then ROOM:SHARE for each share above nought."""
    words = [mark]
    for room, share in enumerate(shares):
        if share[0] > 0:
            words.append(f"{room}:{fraction_word(share)}")
    return " ".join(words)
