"""Covers of as few chains as points need, crowds of as many points as can be, and the looker at both."""

from belowpoints.counts.pairs import pairs_in_all
from belowpoints.heaps.texts import lies_below, place_of


def cover_of(points):
    return tuple([names_along(chain) for chain in chains_laid(points)])


def crowd_of(points):
    chains = chains_laid(points)
    if not chains:
        return ()
    crowd = chains[-1][-1][1]
    return tuple([point[0] for point in points if point[0] in crowd])


def cover_shown(points, cover, crowd):
    return len(cover) == len(crowd) and is_cover(points, cover) and is_crowd(points, crowd)


# Laid by rising x, then y, each point goes onto the first chain that takes it. The last one of the chain ahead comes
# earlier and does not lie below it, so it has a greater y or the same place, and so has whatever that one is kept with:
# each point is kept with the names of a crowd of itself and one of each chain ahead. That of the last chain is as many
# as the chains.
def chains_laid(points):
    chains = []
    for point in sorted(points, key=place_of):
        turn = first_that_takes(chains, point)
        crowd = chains[turn - 1][-1][1] if turn > 0 else ()
        if turn == len(chains):
            chains.append([])
        chains[turn].append((point, crowd + (point[0],)))
    return chains


def names_along(chain):
    return tuple([point[0] for point, crowd in chain])


def first_that_takes(chains, point):
    for turn, chain in enumerate(chains):
        if lies_below(place_of(chain[-1][0]), place_of(point)):
            return turn
    return len(chains)


def is_cover(points, cover):
    places = {}
    for point in points:
        places[point[0]] = place_of(point)
    covered = []
    for chain in cover:
        covered.extend(chain)
    return sorted(covered) == sorted(places) and all([is_chain(places, chain) for chain in cover])


def is_chain(places, names):
    return all([lies_below(places[one], places[other]) for one, other in zip(names, names[1:])])


def is_crowd(points, crowd):
    # Fewer are found than named where a name is not there or stands twice.
    found = [point for point in points if point[0] in crowd]
    return len(found) == len(crowd) and pairs_in_all(found) == 0
