"""Heaps of points that several tests ask of, and pairs gone through one by one."""

LETTERS = "abcdefghijklmnopqrstuvwxyz"


def named(places):
    """Points at these places, with names aa, ab, ac and so on."""
    return tuple(
        (LETTERS[turn // 26] + LETTERS[turn % 26], x, y)
        for turn, (x, y) in enumerate(places)
    )


def strewn(many, wide, seed):
    """Points strewn over a square round 0 by a fixed rule, several at one place where it is narrow."""
    places = []
    state = seed
    for _ in range(many):
        numbers = []
        for _ in range(2):
            state = (state * 6364136223846793005 + 1442695040888963407) % 2**64
            numbers.append((state >> 33) % (2 * wide + 1) - wide)
        places.append(tuple(numbers))
    return named(places)


NONE = ()
ONE = named([(3, -4)])
SAME_PLACE = named([(2, 5)] * 5)
SAME_X = named([(7, y) for y in (3, 1, 2, 3, -9, 0)])
SAME_Y = named([(x, -7) for x in (3, 1, 2, 3, -9, 0)])
RISING = named([(k, 2 * k) for k in range(-4, 5)])
RISING_BACK = named([(k, 2 * k) for k in range(4, -5, -1)])
FALLING = named([(k, -k) for k in range(-4, 5)])
MIXED = named([(0, 0), (2, 1), (1, 2), (2, 1), (-1, 5), (2, 2), (0, 0), (1, 1)])
GREAT = named([
    (9999999999, -9999999999), (-9999999999, 9999999999), (9999999999, 9999999999),
    (-9999999999, -9999999999), (0, 0), (9999999998, 9999999999), (0, 0),
])
SIXTY_WIDE = strewn(60, 9999999999, 1)
SIXTY_NARROW = strewn(60, 3, 2)
SIXTY_MIDDLE = strewn(60, 20, 3)
SIXTY_RISING = named([(k, k) for k in range(60)])
SIXTY_FALLING = named([(k, 60 - k) for k in range(60)])
SIXTY_SAME = named([(-1, 0)] * 60)

HEAPS = (
    NONE, ONE, SAME_PLACE, SAME_X, SAME_Y, RISING, RISING_BACK, FALLING, MIXED, GREAT,
    SIXTY_WIDE, SIXTY_NARROW, SIXTY_MIDDLE, SIXTY_RISING, SIXTY_FALLING, SIXTY_SAME,
) + tuple(strewn(many, wide, 100 * many + wide) for many in range(2, 20) for wide in (1, 2, 5))


def is_below(one, other):
    """Whether the point one lies below the point other."""
    if one[1] > other[1] or one[2] > other[2]:
        return False
    return one[1] < other[1] or one[2] < other[2]


def below_one_by_one(points):
    return tuple(sum(1 for one in points if is_below(one, other)) for other in points)


def above_one_by_one(points):
    return tuple(sum(1 for other in points if is_below(one, other)) for one in points)


def pairs_one_by_one(points):
    return sum(1 for one in points for other in points if is_below(one, other))


def comings_and_goings(points, turns, seed):
    """Changes by a fixed rule among these points: what is done, to which point, and the points held behind it."""
    held = {}
    state = seed
    for turn in range(turns):
        state = (state * 1103515245 + 12345) % 2**31
        name, x, y = points[state // 65536 % len(points)]
        point = (name, x + state // 1024 % 3, y)
        word = "put" if name not in held else "take" if turn % 3 == 0 else "move"
        if word == "take":
            held.pop(name)
        else:
            held[name] = point
        yield word, point, tuple(held.values())


def change_kept(kept, word, point):
    if word == "take":
        kept.take_point(point[0])
    elif word == "put":
        kept.put_point(*point)
    else:
        kept.move_point(*point)
