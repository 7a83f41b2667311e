"""Stairs of the best points, and chains of points that lie below one another."""

from belowpoints.counts.pairs import above_each
from belowpoints.heaps.texts import lies_below, place_of


def stairs_of(points):
    stairs = []
    left = points
    while left:
        above = above_each(left)
        best = [point for point, many in zip(left, above) if many == 0]
        # Of the best, those with the same x have the same place: rising by x they fall by y.
        stairs.append(tuple([point[0] for point in sorted(best, key=place_of)]))
        left = [point for point, many in zip(left, above) if many > 0]
    return tuple(stairs)


def stair_of_each(points):
    stair_by_name = {}
    for turn, stair in enumerate(stairs_of(points)):
        for name in stair:
            stair_by_name[name] = turn
    return stair_by_name


def longest_chains(points):
    if not points:
        return (0, 1, ())
    ones = {}
    for point in points:
        ones[point[0]] = 1
    heaviest = heaviest_chain(points, ones)
    return (heaviest[0], chains_of_each(points)[-1], heaviest[1])


def heaviest_chain(points, weights):
    if not points:
        return (0, ())
    heaviest = first_heaviest(heaviest_begun(points, weights))
    return (heaviest[0], tuple([points[turn][0] for turn in heaviest[1]]))


def chains_of_each(points):
    above = [turns_above(points, point) for point in points]
    # How many chains of the length at hand begin with each point.
    begun = [1] * len(points)
    told = []
    while any(begun):
        told.append(sum(begun))
        begun = [sum_at(begun, turns) for turns in above]
    return tuple(told)


# A chain is kept here as its weight and its points' turns, which is what chains are compared by.
def heaviest_begun(points, weights):
    begun = {}
    for turn in turns_from_the_highest(points):
        # What follows may be nothing, too: no turns stand ahead of any others of the same weight.
        following = [begun[other] for other in turns_above(points, points[turn])]
        rest = first_heaviest([(0, ())] + following)
        begun[turn] = (weights[points[turn][0]] + rest[0], (turn,) + rest[1])
    return list(begun.values())


def first_heaviest(chains):
    return min(chains, key=lambda chain: (-chain[0], chain[1]))


# Whatever lies above a point has the greater place as a tuple, so it comes ahead of it here.
def turns_from_the_highest(points):
    return sorted(range(len(points)), key=lambda turn: place_of(points[turn]), reverse=True)


def turns_above(points, point):
    place = place_of(point)
    return [turn for turn, other in enumerate(points) if lies_below(place, place_of(other))]


def sum_at(numbers, turns):
    return sum([numbers[turn] for turn in turns])
