"""Watches that are made from what they keep."""

from dimkeeper.errors import TooMany
from dimkeeper.orders import order_of
from dimkeeper.watches import Watch, check_sizes


def met_watch(labels, deeds, first, step):
    """The watch with a watch state for each thing that is kept, from the first one on, as they are met.

    step tells what is kept behind a thing, a label and a deed, or None where the promise is broken.
    """
    check_sizes(labels, deeds)
    met = [first]
    seen = {first: True}
    rows = []
    while len(rows) < len(met):
        kept = met[len(rows)]
        row = [[step(kept, label, deed) for deed in deeds] for label in labels]
        rows.append(row)
        for thing in [item for group in row for item in group]:
            if thing is not None and thing not in seen:
                seen[thing] = True
                met.append(thing)
        if len(met) > Watch.MOST_STATES:
            raise TooMany("states", Watch.MOST_STATES)
    names = {thing: f"w{at}" for thing, at in order_of(met).items()}
    places = [[[names.get(thing, Watch.BROKEN) for thing in group] for group in row] for row in rows]
    return Watch(labels, deeds, list(zip(list(names.values()), places)))
