"""A keeper of a machine that changes: each deed tells how far the distances move by it, and can be undone."""

from neartwins.distances import by_distance
from neartwins.errors import NoDeed, NoMark, NoShares
from neartwins.lumps import greatest_lumps
from neartwins.machines import Machine, are_room_shares, check_machine, check_room, is_mark
from neartwins.moves import greatest_move
from neartwins.solving import solved
from neartwins.tables import meant_fade


class Keeper:
    """A machine and a fade that change by deeds, and what they were ahead of each deed that isn't undone."""

    def __init__(self, machine, fade=None):
        check_machine(machine)
        self.kept_fade = meant_fade(fade)
        self.kept_machine = Machine(machine.marks(), machine.shares())
        self.kept_table = solved(self.kept_machine, self.kept_fade)
        self.kept_deeds = []

    def turn_to(self, machine, fade, table):
        """Keep this machine, fade and table of distances from now on; how far the distances move by that."""
        move = greatest_move(self.kept_table, table)
        self.kept_machine = machine
        self.kept_fade = fade
        self.kept_table = table
        return move

    def done(self, machine, fade):
        """Turn to this machine and this fade by a deed that can be undone; how far the distances move."""
        self.kept_deeds.append((self.kept_machine, self.kept_fade, self.kept_table))
        return self.turn_to(machine, fade, solved(machine, fade))

    def mark(self, room, mark):
        """Change the mark of a room; how far the distances move."""
        check_room(self.kept_machine, room)
        if not is_mark(mark):
            raise NoMark("a mark is a text of one to four small letters")
        marks = self.kept_machine.marks()
        marks[room] = mark
        return self.done(Machine(marks, self.kept_machine.shares()), self.kept_fade)

    def steps(self, room, shares):
        """Change the shares of a room; how far the distances move."""
        check_room(self.kept_machine, room)
        if not are_room_shares(len(self.kept_machine), shares):
            raise NoShares("shares are a fraction for each room, together one, of at most three figures each")
        rows = self.kept_machine.shares()
        rows[room] = shares
        return self.done(Machine(self.kept_machine.marks(), rows), self.kept_fade)

    def fade_to(self, fade):
        """Change the fade; how far the distances move."""
        return self.done(self.kept_machine, meant_fade(fade))

    def undo(self):
        """Undo the last deed that isn't undone; how far the distances move."""
        if self.kept_deeds == []:
            raise NoDeed("there is no deed to undo")
        machine, fade, table = self.kept_deeds.pop()
        return self.turn_to(machine, fade, table)

    def machine(self):
        """The machine as it is now."""
        return self.kept_machine

    def fade(self):
        """The fade as it is now."""
        return self.kept_fade

    def table(self):
        """The distances, a table."""
        return [list(row) for row in self.kept_table]

    def far(self, one, other):
        """How far two rooms are apart."""
        check_room(self.kept_machine, one)
        check_room(self.kept_machine, other)
        return self.kept_table[one][other]

    def near(self, room):
        """All other rooms as tuples (distance, room), the nearest first, of equally near ones the lesser room."""
        check_room(self.kept_machine, room)
        return by_distance(self.kept_table, room)

    def lumps(self):
        """The greatest lumps."""
        return greatest_lumps(self.kept_machine)

    def twin(self):
        """Another Keeper with the same machine, fade and deeds to undo."""
        other = Keeper(self.kept_machine, self.kept_fade)
        other.kept_deeds = list(self.kept_deeds)
        return other

    def __eq__(self, other):
        if not isinstance(other, Keeper):
            return False
        return self.kept_machine == other.kept_machine and self.kept_fade == other.kept_fade

    def __len__(self):
        return len(self.kept_deeds)

    def __repr__(self):
        return f"Keeper({self.kept_machine!r}, {self.kept_fade!r})"

    def __str__(self):
        return str(self.kept_machine)
