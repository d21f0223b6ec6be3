"""The refusals of the program, each made of its fields and with them."""


class MarkError(ValueError):
    """Any refusal."""


class NoTurn(MarkError):
    """What is no turn: at is its number, or -1 where it is not known of how many things."""

    def __init__(self, at):
        super().__init__(f"no turn at {at}")
        self.at = at


class TooMany(MarkError):
    """A group of more turns than may be in one."""


class NoNumber(MarkError):
    """What is no number of the house, or no order of its numbers."""


class NoSet(MarkError):
    """Marks that can't be solved in whole numbers: at is the kind at which it shows."""

    def __init__(self, at):
        super().__init__(f"no whole number at kind {at}")
        self.at = at


class BelowNought(MarkError):
    """Marks of no set, for there would be less than no pieces: at is the kind at which it shows."""

    def __init__(self, at):
        super().__init__(f"a number below 0 at kind {at}")
        self.at = at


class NoColours(MarkError):
    """Amounts of colours that do not fit how many things there are."""


class NoLeading(MarkError):
    """What leads no house into another one."""


class NoText(MarkError):
    """What can't be read: line is the number of the first line that can't stand there."""

    def __init__(self, line):
        super().__init__(f"can't be read at line {line}")
        self.line = line


class NoRow(MarkError):
    """What is no row for a desk."""


class NoName(MarkError):
    """A name by which no set stands, or what is no name."""


class NoBack(MarkError):
    """Nothing was done that could be undone."""
