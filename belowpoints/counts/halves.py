"""The pairs by halves, and the looker at halves."""

from belowpoints.counts.pairs import many_below
from belowpoints.heaps.texts import place_of


def halves_of(points):
    # Crossings hang on places alone, so the turn of points at one place need not be kept.
    places = sorted([place_of(point) for point in points])
    return tuple(halves_between(places, 0, len(places)))


def halves_shown(points, halves):
    return halves == halves_of(points)


def halves_between(places, first, behind):
    many = behind - first
    if many < 2:
        return []
    middle = first + many // 2
    whole = (first, behind, crossings_of(places[first:middle], places[middle:behind]))
    return [whole] + halves_between(places, first, middle) + halves_between(places, middle, behind)


def crossings_of(lower, upper):
    return sum([many_below(lower, place) for place in upper])
