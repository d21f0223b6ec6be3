"""Sets put side by side."""


def beside(one, other):
    """The two sets side by side: the things of the other are numbered behind those of the one."""
    many = len(one[0])
    return [row + [many + place for place in behind] for row, behind in zip(one, other)]
