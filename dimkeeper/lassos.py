"""Endless readings that stay unbroken in a watch."""

from dimkeeper.watches import Watch


def closed_reading(watch, run, reading):
    """The pair of a reading and the index of its ring: it begins with this reading, and stays unbroken for ever.

    The watch is settled, and run has the watch states ahead of, between and behind the pairs of the reading.
    """
    leads = {state: signs_behind(watch, state) for state in watch.states}
    if run[-1] in run[:-1]:
        rings = [((), run.index(run[-1]))]
    else:
        rings = ways_to_rings(leads, run)
    signs, ring = min(rings, key=lambda told: len(told[0]))
    return (*reading, *signs), ring


def signs_behind(watch, state):
    """For each watch state to which this one leads, the first sign that does."""
    signs = {}
    for label in watch.labels:
        for deed in watch.deeds:
            place = watch.place_of(state, label, deed)
            if place != Watch.BROKEN and place not in signs:
                signs[place] = (label, deed)
    return signs


def ways_to_rings(leads, run):
    """Rows of signs behind the run with the index from which on all can be read again and again."""
    walks = shortest_walks(leads, run[-1])
    rings = [(walks[state], run.index(state)) for state in run if state in walks]
    for state, walk in walks.items():
        back = shortest_walks(leads, state)
        if state in back:
            rings.append(((*walk, *back[state]), len(run) - 1 + len(walk)))
    return rings


def shortest_walks(leads, start):
    """For each watch state to which walks of one sign or more lead from this one, the signs of a shortest one."""
    walks = {}
    met = [(start, ())]
    at = 0
    while at < len(met):
        state, signs = met[at]
        for place, sign in leads[state].items():
            if place not in walks:
                walks[place] = (*signs, sign)
                met.append((place, walks[place]))
        at += 1
    return walks
