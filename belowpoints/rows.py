"""Rows of unlike numbers by their counts: for each place how many numbers ahead of it are greater."""

from belowpoints.errors import NoCounts, NoPlace


def counts_of(row):
    return tuple([many_greater(row[:place], number) for place, number in enumerate(row)])


def count_of(row):
    return sum(counts_of(row))


def row_of(counts):
    need_counts(counts)
    left = list(range(1, len(counts) + 1))
    backwards = []
    # From the last place on: what is left are the numbers up to this place, so the count tells which one stands here.
    for place in range(len(counts) - 1, -1, -1):
        backwards.append(left.pop(place - counts[place]))
    return tuple(reversed(backwards))


def rows_with(many):
    return tuple(ways_from_each(many)[0])


def nth_row(many, count, place):
    ways = ways_from_each(many)
    if place < 0 or place >= ways_to(ways[0], count):
        raise NoPlace(f"there is no row {place} of {many} numbers with {count} in all")
    counts = []
    left = count
    ahead = place
    for turn in range(many):
        own = 0
        while ahead >= ways_to(ways[turn + 1], left - own):
            ahead = ahead - ways_to(ways[turn + 1], left - own)
            own = own + 1
        counts.append(own)
        left = left - own
    return row_of(counts)


def place_of_row(row):
    ways = ways_from_each(len(row))
    counts = counts_of(row)
    left = sum(counts)
    ahead = 0
    for turn, own in enumerate(counts):
        # Ahead stand all rows that are alike up to here and have a lesser count at this place.
        ahead = ahead + sum([ways_to(ways[turn + 1], left - lesser) for lesser in range(own)])
        left = left - own
    return ahead


def many_greater(numbers, number):
    return len([other for other in numbers if other > number])


def need_counts(counts):
    for place, count in enumerate(counts):
        if count < 0 or count > place:
            raise NoCounts(place)


# For each place, and for the one behind the last: in how many ways the counts from there on come to each sum.
def ways_from_each(many):
    backwards = [[1]]
    for place in range(many - 1, -1, -1):
        backwards.append(ways_with_one_more(backwards[-1], place))
    return list(reversed(backwards))


def ways_with_one_more(ways, most):
    return [sum(ways[max(0, total - most):total + 1]) for total in range(len(ways) + most)]


def ways_to(ways, total):
    return ways[total] if 0 <= total < len(ways) else 0
