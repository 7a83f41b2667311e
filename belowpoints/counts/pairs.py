"""How many points lie below and above each, and how many pairs there are in all."""

from belowpoints.heaps.texts import lies_below, place_of


def below_each(points):
    places = [place_of(point) for point in points]
    return tuple([many_below(places, place) for place in places])


def above_each(points):
    places = [place_of(point) for point in points]
    return tuple([many_above(places, place) for place in places])


def pairs_in_all(points):
    return sum(below_each(points))


def many_below(places, place):
    return len([other for other in places if lies_below(other, place)])


def many_above(places, place):
    return len([other for other in places if lies_below(place, other)])
