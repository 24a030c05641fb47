"""The lines of a journal, and the texts of positions and strands in them [25]."""

MODULUS = 9973


def position_text(position):
    """A position as a text; `-` for None."""
    if position is None:
        return "-"
    if not isinstance(position, tuple):
        return str(position)
    number, first, second = position
    return f"{number}({position_text(first)},{position_text(second)})"


def strand_text(strand):
    """A strand as a text."""
    return "." + "".join([str(part) for part in strand])


def positions_by_text(positions):
    """A dict from the texts of some positions to these."""
    return {position_text(position): position for position in positions}


def strands_by_text(strands):
    """A dict from the texts of some strands to these."""
    return {strand_text(strand): strand for strand in strands}


def check_number(ahead, index, event):
    """The check number of a line; ahead is that of the line ahead of it."""
    return (31 * ahead + index + sum([ord(sign) for sign in event])) % MODULUS


class Journal:
    """The lines written so far, without their ends."""

    def __init__(self):
        self._rows = []
        self._latest = 0

    def how_many(self):
        """How many lines are written."""
        return len(self._rows)

    def _next_check(self, event):
        return check_number(self._latest, len(self._rows), event)

    def line_for(self, event):
        """The line that would be written for an event."""
        return f"{len(self._rows)} {self._next_check(event)} {event}"

    def write(self, event):
        """Write the line for an event."""
        line = self.line_for(event)
        self._latest = self._next_check(event)
        self._rows.append(line)

    def text(self):
        """All lines, each ended by a line feed."""
        return "".join([row + "\n" for row in self._rows])
