"""Two tables that are one up to the order of kinds."""


def key_of(table, colours, kind):
    """What tells a kind from others: its colour, and which numbers the table has at it and the kinds of each colour."""
    row = table[kind]
    beside = [(colours[other], row[other], table[other][kind]) for other in range(len(table))]
    return colours[kind], tuple(sorted(beside))


def coloured_anew(one, other, colours, other_colours):
    """New colours for the kinds of both tables: two kinds have one colour just where they have one key."""
    keys = [key_of(one, colours, kind) for kind in range(len(one))]
    other_keys = [key_of(other, other_colours, kind) for kind in range(len(other))]
    places = {key: place for place, key in enumerate(sorted(set(keys + other_keys)))}
    return [places[key] for key in keys], [places[key] for key in other_keys]


def settled(one, other, colours, other_colours):
    """The colours, given anew until no more kinds are told from one another."""
    many = 0
    while many < len(set(colours + other_colours)):
        many = len(set(colours + other_colours))
        colours, other_colours = coloured_anew(one, other, colours, other_colours)
    return colours, other_colours


def singled_out(colours, kind):
    """The colours, with one for this kind alone."""
    told = list(colours)
    told[kind] = -1
    return told


def order_along(one, other, colours, other_colours):
    """An order of the kinds, each to one of its colour, that makes the tables one; or None.

    Where the colours alone do not tell all kinds from one another, one kind is tried at each place where it may go.
    Each such choice tells most of the others, so there are few.
    """
    colours, other_colours = settled(one, other, colours, other_colours)
    if sorted(colours) != sorted(other_colours):
        return None
    several = [kind for kind, colour in enumerate(colours) if colours.count(colour) > 1]
    if not several:
        return [other_colours.index(colour) for colour in colours]
    kind = several[0]
    for goal, colour in enumerate(other_colours):
        if colour == colours[kind]:
            order = order_along(one, other, singled_out(colours, kind), singled_out(other_colours, goal))
            if order is not None:
                return order
    return None


def same_tables(one, other):
    """An order o such that the one table has at i, j what the other has at o[i], o[j]; or None."""
    if len(one) != len(other):
        return None
    return order_along(one, other, [0] * len(one), [0] * len(other))
