"""Crews: names that have several spots each; and where hands come best."""

from ringkeep.errors import NoHand
from ringkeep.rings import came, count_spots, holders, power_of_two, span_of


def ring_of(beat, crew):
    hands = []
    for spots in crew:
        hands.extend(spots)
    return (beat, tuple(sorted(hands)))


def name_of(crew, spot):
    for name, spots in enumerate(crew):
        if spot in spots:
            return name
    raise NoHand(f"no name has the spot {spot!r}")


def load_of(ring, spots):
    return sum([span_of(ring, spot)[1] for spot in spots])


def loads(beat, crew):
    ring = ring_of(beat, crew)
    return tuple([load_of(ring, spots) for spots in crew])


def names_for(beat, crew, key, copies):
    ring = ring_of(beat, crew)
    names = []
    # All spots are walked: those that come first may be of one name.
    for spot in holders(ring, key, len(ring[1])):
        name = name_of(crew, spot)
        if name not in names:
            names.append(name)
    # A number below 0 would cut the row from its far end.
    return tuple(names[:max(copies, 0)])


def best_spot(ring):
    best = None
    most = 0
    for spot in range(count_spots(ring)):
        if spot not in ring[1]:
            many = load_of(came(ring, spot), (spot,))
            # Spots rise, so of several that are as good the first one stays.
            if many > most:
                best = spot
                most = many
    return (best, most)


def even_ring(beat, many):
    spots = power_of_two(beat)
    return (beat, tuple([k * spots // many for k in range(many)]))
