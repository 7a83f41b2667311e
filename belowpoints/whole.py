"""The desk: lines that change kept points, or ask of them."""

from belowpoints.chains.covers import crowd_of
from belowpoints.chains.stairs import longest_chains, stairs_of
from belowpoints.counts.halves import halves_of
from belowpoints.counts.pairs import above_each, below_each, pairs_in_all
from belowpoints.errors import NoAsk
from belowpoints.heaps.boxes import nth_by_x
from belowpoints.heaps.texts import is_name, is_number
from belowpoints.kept import KeptPoints

MOST_POINTS = 60
MOST_FIGURES = 10

# What stands behind the first word of each line.
FORMS = {
    "put": ("name", "number", "number"),
    "take": ("name",),
    "move": ("name", "number", "number"),
    "points": (),
    "counts": (),
    "pairs": (),
    "halves": (),
    "below": ("number", "number"),
    "above": ("number", "number"),
    "box": ("number", "number", "number", "number"),
    "nth": ("place", "number", "number", "number", "number"),
    "stairs": (),
    "longest": (),
    "crowd": (),
}


class Desk:
    def __init__(self):
        self.kept = KeptPoints()

    def ask(self, line):
        words = line.split(" ")
        given = given_behind(words)
        if words[0] in ("put", "take", "move"):
            self.change_points(words[0], given)
            return []
        # What has nothing behind its first word is asked of all points.
        if given:
            return rows_shown([self.told_at(words[0], given)])
        return rows_shown(rows_of(words[0], self.kept.points_now()))

    def change_points(self, word, given):
        if word == "put":
            self.need_room()
            self.kept.put_point(given[0], given[1], given[2])
        elif word == "take":
            self.kept.take_point(given[0])
        else:
            self.kept.move_point(given[0], given[1], given[2])

    def need_room(self):
        if len(self.kept.points_now()) >= MOST_POINTS:
            raise NoAsk(f"there are {MOST_POINTS} points already")

    def told_at(self, word, given):
        if word == "below":
            return (self.kept.below_now(given[0], given[1]),)
        if word == "above":
            return (self.kept.above_now(given[0], given[1]),)
        if word == "box":
            return (self.kept.box_now(given),)
        return (nth_by_x(self.kept.points_now(), given[1:], given[0]),)


def given_behind(words):
    form = FORMS.get(words[0])
    if form is None or len(form) != len(words) - 1:
        raise NoAsk("no line begins or goes on so")
    return tuple([value_of(word, kind) for word, kind in zip(words[1:], form)])


def value_of(word, kind):
    if kind == "name":
        if not is_name(word):
            raise NoAsk(f"{word!r} is no name")
        return word
    if not is_number(word) or len(word.lstrip("-")) > MOST_FIGURES:
        raise NoAsk(f"{word!r} is no number of at most {MOST_FIGURES} figures")
    if kind == "place" and word.startswith("-"):
        raise NoAsk(f"{word!r} is no place")
    return int(word)


def rows_of(word, points):
    if word == "points":
        return points
    if word == "counts":
        names = [point[0] for point in points]
        return list(zip(names, below_each(points), above_each(points)))
    if word == "pairs":
        return [(pairs_in_all(points),)]
    if word == "halves":
        return halves_of(points)
    if word == "stairs":
        return stairs_of(points)
    if word == "longest":
        longest = longest_chains(points)
        return [longest[:2], longest[2]]
    return [crowd_of(points)]


# A chain or a crowd without points is no row at all.
def rows_shown(rows):
    return [row_shown(row) for row in rows if row]


def row_shown(row):
    return " ".join([str(part) for part in row])
