"""Promises that are often made, as watches."""

from dimkeeper.checks import are_some_of, is_within
from dimkeeper.errors import BadNumbers, BadWatch
from dimkeeper.met_watch import met_watch
from dimkeeper.watches import Watch, check_fitting, check_signs, check_watch

MOST_MANY = 100


def check_some(some, names, part):
    """Raises BadWatch unless some are one or more different ones of these names."""
    if not are_some_of(some, names):
        raise BadWatch(part)


def check_many(many):
    """Raises BadNumbers unless many is an integer from 1 to 100."""
    if not is_within(many, 1, MOST_MANY):
        raise BadNumbers("many")


def anything(labels, deeds):
    """Never broken."""
    check_signs(labels, deeds)
    return met_watch(labels, deeds, 0, lambda kept, label, deed: kept)


def never(labels, deeds, some):
    """Broken when a label of some is read."""
    check_signs(labels, deeds)
    check_some(some, labels, "some")
    return met_watch(labels, deeds, 0, lambda kept, label, deed: None if label in some else kept)


def never_done(labels, deeds, some):
    """Broken when a deed of some is read."""
    check_signs(labels, deeds)
    check_some(some, deeds, "some")
    return met_watch(labels, deeds, 0, lambda kept, label, deed: None if deed in some else kept)


def again(labels, deeds, some, many):
    """Broken when the last many labels read are none of some."""
    check_signs(labels, deeds)
    check_some(some, labels, "some")
    check_many(many)

    def step(kept, label, deed):
        if label in some:
            return 0
        return kept + 1 if kept + 1 < many else None

    return met_watch(labels, deeds, 0, step)


def in_turn(labels, deeds, row):
    """The labels of row are read in this order alone."""
    check_signs(labels, deeds)
    check_some(row, labels, "row")
    return met_watch(labels, deeds, 0, lambda kept, label, deed: turned_on(row, kept, label))


def done_in_turn(labels, deeds, row):
    """The deeds of row are done in this order alone."""
    check_signs(labels, deeds)
    check_some(row, deeds, "row")
    return met_watch(labels, deeds, 0, lambda kept, label, deed: turned_on(row, kept, deed))


def turned_on(row, at, name):
    """The place in row of the name that is next behind this one, or None if it stands in row and was not next."""
    if name not in row:
        return at
    return (at + 1) % len(row) if name == row[at] else None


def answered(labels, deeds, asks, some, many):
    """A label of asks is answered by one of some, at the latest as the one that makes many behind it."""
    check_signs(labels, deeds)
    check_some(asks, labels, "asks")
    check_some(some, labels, "some")
    check_many(many)

    def step(kept, label, deed):
        # What is kept is 0 if no answer is waited for, otherwise 1 more than how many labels came since.
        if kept > 0 and label not in some:
            return kept + 1 if kept < many else None
        return 1 if label in asks else 0

    return met_watch(labels, deeds, 0, step)


def both(one, other):
    """Broken when one of two watches is."""
    check_fitting(one, other)

    def step(kept, label, deed):
        places = (one.place_of(kept[0], label, deed), other.place_of(kept[1], label, deed))
        return None if Watch.BROKEN in places else places

    return met_watch(one.labels, one.deeds, (one.first, other.first), step)


def freed_by(watch, some):
    """The same as a watch until a label of some is read; from then on nothing breaks it."""
    check_watch(watch, "watch")
    check_some(some, watch.labels, "some")

    def step(kept, label, deed):
        # What is kept is a watch state, or BROKEN, which is none, for being free.
        if kept == Watch.BROKEN or label in some:
            return Watch.BROKEN
        place = watch.place_of(kept, label, deed)
        return None if place == Watch.BROKEN else place

    return met_watch(watch.labels, watch.deeds, watch.first, step)
