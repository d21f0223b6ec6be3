"""Shares of a part: the numbers (h then g) for all h of the part, for a number g."""


def shares(house, part):
    """The least numbers of the shares, rising; and for each number of the house its share's place there."""
    least = []
    places = [-1] * len(house)
    for number in range(len(house)):
        # Numbers come rising, so the first of a share that is come to is its least.
        if places[number] == -1:
            for inner in part:
                places[house[inner][number]] = len(least)
            least.append(number)
    return least, places
