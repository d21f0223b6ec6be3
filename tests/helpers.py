"""What several tests need: odd things, known groups and houses, and a look at whose an answer is."""

import copy
import itertools

from heldmarks.groups import group_of, house_of

SYM3 = [(1, 0, 2), (1, 2, 0)]
SYM4 = [(1, 0, 2, 3), (1, 2, 3, 0)]
SYM5 = [(1, 0, 2, 3, 4), (1, 2, 3, 4, 0)]
ALT4 = [(1, 2, 0, 3), (1, 0, 3, 2)]
ALT5 = [(1, 2, 0, 3, 4), (1, 2, 3, 4, 0)]
SQUARE = [(1, 2, 3, 0), (0, 3, 2, 1)]
FOUR = [(1, 0, 3, 2), (2, 3, 0, 1)]
SYM4_AND_TWO = [(1, 0, 2, 3, 4, 5), (1, 2, 3, 0, 4, 5), (0, 1, 2, 3, 5, 4)]
SQUARE_AND_SYM3 = [(1, 2, 3, 0, 4, 5, 6), (0, 3, 2, 1, 4, 5, 6), (0, 1, 2, 3, 5, 4, 6), (0, 1, 2, 3, 5, 6, 4)]
SEVEN = [(1, 2, 3, 4, 5, 6, 0), (0, 3, 6, 2, 5, 1, 4)]

# Five numbers with 0 at rest and each number once in each row and column, but bound unlike.
LOOP = [
    [0, 1, 2, 3, 4],
    [1, 0, 3, 4, 2],
    [2, 4, 0, 1, 3],
    [3, 2, 4, 0, 1],
    [4, 3, 1, 2, 0],
]


def odd_things():
    """Things of many kinds that are no number of anything; fresh ones at each call."""
    round_list = []
    round_list.append(round_list)
    return [
        None, True, False, "", "0", "01", b"", b"\x00", [], [0], [[0]], [None], (), (True,), (None,),
        ("0",), ([0],), {}, {0: 0}, set(), {0}, frozenset([0]), object(), int, len, range(3), -1, -7,
        10 ** 29, -(10 ** 29), round_list, (round_list,), 1j, iter([0, 1]), Ellipsis, NotImplemented,
    ]


def all_turns(many):
    return list(itertools.permutations(range(many)))


def house_by(turns):
    """The house of the group that the turns make."""
    return house_of(group_of(len(turns[0]), turns))


def cyclic(many):
    return [[(a + b) % many for b in range(many)] for a in range(many)]


def twos(many):
    """The house with many numbers, a power of two, each of length one or two."""
    return [[a ^ b for b in range(many)] for a in range(many)]


def paired_house(one, other):
    """The house of the pairs (a, b), numbered a times how many the other has, and b."""
    size = len(other)
    pairs = [(a, b) for a in range(len(one)) for b in range(size)]
    return [[one[a][c] * size + other[b][d] for c, d in pairs] for a, b in pairs]


def quaternions():
    """The house of eight numbers, sign and unit: one of length two, six of length four."""
    units = [[(0, 0), (0, 1), (0, 2), (0, 3)], [(0, 1), (1, 0), (0, 3), (1, 2)],
             [(0, 2), (1, 3), (1, 0), (0, 1)], [(0, 3), (0, 2), (1, 1), (1, 0)]]
    names = [(sign, unit) for sign in range(2) for unit in range(4)]

    def times(a, b):
        sign, unit = units[a[1]][b[1]]
        return names.index(((a[0] + b[0] + sign) % 2, unit))

    return [[times(a, b) for b in names] for a in names]


def numbered_anew(house, order):
    """The house in which a became order[a]."""
    many = len(house)
    back = [order.index(a) for a in range(many)]
    return [[order[house[back[a]][back[b]]] for b in range(many)] for a in range(many)]


def small_houses():
    """Houses of at most twenty-four numbers, of many sorts."""
    return [
        cyclic(1), cyclic(2), cyclic(7), cyclic(12), twos(4), twos(8), house_by(SYM3), house_by(SQUARE),
        quaternions(), house_by(ALT4), house_by(SYM4), paired_house(house_by(SYM3), cyclic(2)),
        numbered_anew(house_by(SYM3), [0, 3, 5, 1, 4, 2]), numbered_anew(quaternions(), [0, 7, 3, 5, 1, 2, 6, 4]),
    ]


def large_houses():
    """Houses with many numbers, of up to sixty, or with many kinds."""
    return [house_by(ALT5), house_by(SYM4_AND_TWO), house_by(SQUARE_AND_SYM3), house_by(SEVEN), twos(16), cyclic(30)]


def lists_in(thing):
    """All lists within thing, itself too."""
    if isinstance(thing, list):
        return [thing] + [found for part in thing for found in lists_in(part)]
    if isinstance(thing, tuple):
        return [found for part in thing for found in lists_in(part)]
    return []


def spoil(thing):
    """Change every list within thing."""
    for found in lists_in(thing):
        found.append("spoilt")
        found[0] = "spoilt"


def check_own(case, call, *given):
    """Nothing given is changed, and the answer is the asker's own."""
    kept = copy.deepcopy(given)
    told = call(*given)
    case.assertEqual(given, kept)
    answer = copy.deepcopy(told)
    # The lists are held here while their ids are compared, so that no id is used twice.
    held = lists_in(told) + lists_in(given)
    own = {id(found) for found in lists_in(told)}
    case.assertEqual(len(own), len(lists_in(told)))
    case.assertEqual(own & {id(found) for found in lists_in(given)}, set())
    spoil(told)
    del held
    case.assertEqual(given, kept)
    again = call(*given)
    case.assertEqual(again, answer)
    spoil(given)
    case.assertEqual(again, answer)
    case.assertEqual(call(*copy.deepcopy(kept)), answer)


def check_refused(case, error, call, *given, **fields):
    """The call is refused with just this error and these fields, and nothing given is changed."""
    before = [list(found) for found in lists_in_once(given)]
    with case.assertRaises(error) as caught:
        call(*given)
    case.assertEqual(caught.exception.__class__, error)
    for name, value in fields.items():
        case.assertEqual(getattr(caught.exception, name), value)
    after = lists_in_once(given)
    case.assertEqual(len(after), len(before))
    for now, then in zip(after, before):
        case.assertEqual([id(part) for part in now], [id(part) for part in then])


def lists_in_once(thing, seen=None):
    """All lists within thing, each once, also where one holds itself."""
    seen = {} if seen is None else seen
    if isinstance(thing, list) and id(thing) not in seen:
        seen[id(thing)] = thing
        for part in thing:
            lists_in_once(part, seen)
    elif isinstance(thing, tuple):
        for part in thing:
            lists_in_once(part, seen)
    return list(seen.values())
