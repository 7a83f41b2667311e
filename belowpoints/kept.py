"""Points that are kept while they come and go."""

from belowpoints.counts.pairs import many_above, many_below, pairs_in_all
from belowpoints.errors import NoName
from belowpoints.heaps.boxes import in_boxes
from belowpoints.heaps.texts import place_of


class KeptPoints:
    def __init__(self):
        # By names: a dict keeps the order in which they came, also where one is given another place.
        self.points = {}

    def put_point(self, name, x, y):
        if name in self.points:
            raise NoName(name)
        self.points[name] = (name, x, y)

    def take_point(self, name):
        self.need_name(name)
        self.points.pop(name)

    def move_point(self, name, x, y):
        self.need_name(name)
        self.points[name] = (name, x, y)

    def points_now(self):
        return tuple(self.points.values())

    def below_now(self, x, y):
        return many_below(self.places_now(), (x, y))

    def above_now(self, x, y):
        return many_above(self.places_now(), (x, y))

    def pairs_now(self):
        return pairs_in_all(self.points_now())

    def box_now(self, box):
        return in_boxes(self.points_now(), (box,))[0]

    def places_now(self):
        return [place_of(point) for point in self.points.values()]

    def need_name(self, name):
        if name not in self.points:
            raise NoName(name)
