"""Corners and boxes: how many points they hold, how much weight, and which in order."""

from belowpoints.errors import NoPlace
from belowpoints.heaps.texts import place_of


def in_corner(points, x, y):
    return len([point for point in points if point[1] <= x and point[2] <= y])


def in_boxes(points, boxes):
    return tuple([len(points_in(points, box)) for box in boxes])


def weights_in(points, boxes, weights):
    return tuple([weight_of(points_in(points, box), weights) for box in boxes])


# Python's order by a key leaves those alike as they came, which is what is asked of one place.
def nth_by_x(points, box, place):
    return name_at(sorted(points_in(points, box), key=place_of), place)


def nth_by_y(points, box, place):
    return name_at(sorted(points_in(points, box), key=turned_place_of), place)


def points_in(points, box):
    return [point for point in points if is_held(point, box)]


def is_held(point, box):
    return box[0] <= point[1] <= box[2] and box[1] <= point[2] <= box[3]


def weight_of(points, weights):
    return sum([weights[point[0]] for point in points])


def turned_place_of(point):
    return (point[2], point[1])


def name_at(points, place):
    # Below 0 is looked at by itself: an index below 0 would count from behind.
    if place < 0 or place >= len(points):
        raise NoPlace(f"there is no point at place {place} in this box")
    return points[place][0]
