"""Endless readings that stay unbroken in a watch."""

from dimkeeper.watches import Watch

MOST_TOLD = 200


def closed_reading(watch, run, reading):
    """The pair of a reading and the index of its ring: it begins with this reading, and stays unbroken for ever.

    The watch is settled, and run has the watch states ahead of, between and behind the pairs of the reading.
    """
    leads = {state: signs_behind(watch, state) for state in watch.states}
    if run[-1] in run[:-1]:
        rings = [((), run.index(run[-1]))]
    else:
        rings = ways_to_rings(leads, run)
    signs, ring = min(rings, key=lambda told: len(told[0]))
    whole = (*reading, *signs)
    return (whole, ring) if len(whole) <= MOST_TOLD else folded(whole, ring)


def signs_behind(watch, state):
    """For each watch state to which this one leads, the first sign that does."""
    signs = {}
    for label in watch.labels:
        for deed in watch.deeds:
            place = watch.place_of(state, label, deed)
            if place != Watch.BROKEN and place not in signs:
                signs[place] = (label, deed)
    return signs


def ways_to_rings(leads, run):
    """Rows of signs behind the run with the index from which on all can be read again and again."""
    walks = shortest_walks(leads, run[-1])
    rings = [(walks[state], run.index(state)) for state in run if state in walks]
    for state, walk in walks.items():
        back = shortest_walks(leads, state)
        if state in back:
            rings.append(((*walk, *back[state]), len(run) - 1 + len(walk)))
    return rings


def shortest_walks(leads, start):
    """For each watch state to which walks of one sign or more lead from this one, the signs of a shortest one."""
    walks = {}
    met = [(start, ())]
    at = 0
    while at < len(met):
        state, signs = met[at]
        for place, sign in leads[state].items():
            if place not in walks:
                walks[place] = (*signs, sign)
                met.append((place, walks[place]))
        at += 1
    return walks


def folded(reading, ring):
    """The same endless reading, told as short as can be."""
    loop = reading[ring:]
    sizes = [size for size in range(1, len(loop) + 1) if len(loop) % size == 0]
    loop = loop[:min([size for size in sizes if loop == loop[:size] * (len(loop) // size)])]
    stem = reading[:ring]
    while stem and stem[-1] == loop[-1]:
        loop = (loop[-1], *loop[:-1])
        stem = stem[:-1]
    return (*stem, *loop), len(stem)
