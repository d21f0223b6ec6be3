"""Turns and books as texts."""

from heldmarks.turns import rings


def show_numbers(numbers):
    """The numbers with one blank between two."""
    return " ".join([str(number) for number in numbers])


def show_turn(turn):
    """The turn by its rings of two or more things; the stay as ()."""
    shown = [f"({show_numbers(ring)})" for ring in rings(turn) if len(ring) > 1]
    return " ".join(shown) if shown else "()"


def show_book(many, turns, sets):
    """The book of so many things, these turns, and these sets, tuples of a name and counts."""
    lines = [f"things {many}"]
    for turn in turns:
        lines.append(f"turn {show_turn(turn)}")
    for name, counts in sets:
        lines.append(f"set {name} {show_numbers(counts)}")
    return "\n".join(lines)
