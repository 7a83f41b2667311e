"""Points in the room, which have a place by three numbers."""

from belowpoints.counts.pairs import many_above, many_below


def room_below(points):
    places = [room_place_of(point) for point in points]
    return tuple([many_below(places, place) for place in places])


def room_pairs(points):
    return sum(room_below(points))


def room_best(points):
    places = [room_place_of(point) for point in points]
    return tuple([point[0] for point in points if many_above(places, room_place_of(point)) == 0])


def room_place_of(point):
    return (point[1], point[2], point[3])
