"""Points written and read as texts, and which place lies below which."""

from belowpoints.errors import NoPoints

LETTERS = "abcdefghijklmnopqrstuvwxyz"
FIGURES = "0123456789"
LONGEST_NAME = 8


def read_points(text):
    # A split text has always one line at least, but none are written as no line at all.
    if text == "":
        return ()
    points = []
    known = {}
    for row, line in enumerate(text.split("\n")):
        point = point_in(line)
        if point is None or point[0] in known:
            raise NoPoints(row)
        known[point[0]] = True
        points.append(point)
    return tuple(points)


def points_shown(points):
    return "\n".join([f"{name} {x} {y}" for name, x, y in points])


# Of places by two numbers or by three.
def lies_below(one, other):
    return one != other and all([number <= above for number, above in zip(one, other)])


def place_of(point):
    return (point[1], point[2])


def point_in(line):
    words = line.split(" ")
    if len(words) != 3 or not is_name(words[0]):
        return None
    if not is_number(words[1]) or not is_number(words[2]):
        return None
    return (words[0], int(words[1]), int(words[2]))


def is_name(word):
    return 1 <= len(word) <= LONGEST_NAME and holds_only(word, LETTERS)


def is_number(word):
    figures = word[1:] if word.startswith("-") else word
    if figures == "" or not holds_only(figures, FIGURES):
        return False
    # Compared with the whole word, so that "-0" is no number either.
    return figures[0] != "0" or word == "0"


# Not isdigit or islower: these let by signs of other alphabets too.
def holds_only(word, signs):
    return all([sign in signs for sign in word])
