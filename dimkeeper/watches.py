"""Watches, which tell a promise: what breaks it, label by label, deed by deed."""

from dimkeeper.checks import are_named, are_names, is_name, is_pair, is_row, twice
from dimkeeper.doom import lasting
from dimkeeper.errors import BadWatch, NoDeed, NoLabel, NoWatchState, TooMany, Unlike
from dimkeeper.orders import come_about, each_once, order_of
from dimkeeper.reader import Reader


class Watch:
    """A watch, which begins at its first watch state."""

    BROKEN = "broken"
    MOST_LABELS = 200
    MOST_DEEDS = 12
    MOST_STATES = 200

    def __init__(self, labels, deeds, states):
        check_signs(labels, deeds)
        if not are_watch_states(states):
            raise BadWatch("states")
        names = [row[0] for row in states]
        if not all([are_places(row[1], (len(labels), len(deeds)), names) for row in states]):
            raise BadWatch("places")
        check_sizes(labels, deeds)
        if len(states) > self.MOST_STATES:
            raise TooMany("states", self.MOST_STATES)
        self.labels = tuple(labels)
        self.deeds = tuple(deeds)
        self.states = tuple(names)
        self.first = names[0]
        self._label_at = order_of(labels)
        self._deed_at = order_of(deeds)
        self._places = {row[0]: tuple([tuple(group) for group in row[1]]) for row in states}

    def place_of(self, state, label, deed):
        """The place to which the watch goes from a watch state."""
        if state not in self:
            raise NoWatchState(state)
        self.check_sign(label, deed)
        return self._places[state][self._label_at[label]][self._deed_at[deed]]

    def check_sign(self, label, deed):
        """Raises what is told of a label and a deed that the watch has not."""
        if not isinstance(label, str) or label not in self._label_at:
            raise NoLabel(label)
        if not isinstance(deed, str) or deed not in self._deed_at:
            raise NoDeed(deed)

    def all_places(self, state):
        """The places of a watch state, each once, as they come first, label by label, deed by deed."""
        return each_once([place for group in self._places[state] for place in group])

    def after(self, reading):
        """The place to which a reading leads."""
        place = self.first
        for label, deed in self._pairs(reading):
            place = self.place_behind(place, label, deed)
        return place

    def broken_at(self, reading):
        """The moment at which a reading is broken, or None."""
        place = self.first
        for at, (label, deed) in enumerate(self._pairs(reading)):
            place = self.place_behind(place, label, deed)
            if place == self.BROKEN:
                return at
        return None

    def place_behind(self, place, label, deed):
        """The place behind a place, which may be broken, too."""
        return place if place == self.BROKEN else self.place_of(place, label, deed)

    def _pairs(self, reading):
        if not is_row(reading) or not all([is_pair(pair) for pair in reading]):
            raise BadWatch("reading")
        for label, deed in reading:
            self.check_sign(label, deed)
        return [tuple(pair) for pair in reading]

    def reached(self):
        """The watch states to which readings lead, as they are met."""
        met = come_about((self.first,), lambda place: () if place == self.BROKEN else self.all_places(place))
        return tuple([place for place in met if place != self.BROKEN])

    def begun(self, state):
        """The watch that begins at this watch state."""
        if state not in self:
            raise NoWatchState(state)
        states = [state] + [other for other in self.states if other != state]
        return Watch(self.labels, self.deeds, [(name, self._places[name]) for name in states])

    def carried(self, labels=None, deeds=None):
        """The watch over new labels and deeds, each read as an old one; None leaves them as they are."""
        if labels is not None and (not are_named(labels, self.labels) or len(labels) == 0):
            raise BadWatch("labels")
        if deeds is not None and (not are_named(deeds, self.deeds) or len(deeds) == 0):
            raise BadWatch("deeds")
        news = self.labels if labels is None else tuple(sorted(labels))
        doings = self.deeds if deeds is None else tuple(sorted(deeds))
        old_labels = news if labels is None else [labels[new] for new in news]
        old_deeds = doings if deeds is None else [deeds[new] for new in doings]
        check_sizes(news, doings)
        states = [(state, [[self.place_of(state, label, deed) for deed in old_deeds] for label in old_labels])
                  for state in self.states]
        return Watch(news, doings, states)

    @property
    def is_hopeless(self):
        """Whether no endless reading stays unbroken."""
        return self.first not in self.lasting_states()

    def lasting_states(self):
        """The watch states that are not doomed, in order."""
        return lasting({state: self.all_places(state) for state in self.states})

    def __len__(self):
        return len(self.states)

    def __iter__(self):
        return iter(self.states)

    def __contains__(self, value):
        return isinstance(value, str) and value in self._places

    def __eq__(self, other):
        return (isinstance(other, Watch) and self.labels == other.labels and self.deeds == other.deeds
                and self.states == other.states and self._places == other._places)

    def __str__(self):
        parts = [" , ".join([" ".join(group) for group in self._places[state]]) for state in self.states]
        return " ; ".join([" ".join(self.labels), " ".join(self.deeds), " ".join(self.states), " / ".join(parts)])

    @classmethod
    def read(cls, text):
        """The watch with this text."""
        reader = Reader(text)
        labels = reader.take_different(cls.MOST_LABELS, ";")
        deeds = reader.take_different(cls.MOST_DEEDS, ";")
        states = read_states(reader, cls.MOST_STATES)
        known = order_of([*states, cls.BROKEN])
        rows = []
        for state in states:
            if rows:
                reader.take_mark("/")
            rows.append((state, read_places(reader, len(labels), len(deeds), known)))
        reader.take_mark(None)
        return cls(labels, deeds, rows)


def check_watch(value, part):
    """Raises BadWatch unless the value is a watch."""
    if not isinstance(value, Watch):
        raise BadWatch(part)


def check_fitting(one, other):
    """Raises what is told of two watches over other labels or deeds."""
    check_watch(one, "one")
    check_watch(other, "other")
    if one.labels != other.labels:
        raise Unlike("labels")
    if one.deeds != other.deeds:
        raise Unlike("deeds")


def check_signs(labels, deeds):
    """Raises BadWatch unless both are one or more different names."""
    if not are_names(labels):
        raise BadWatch("labels")
    if not are_names(deeds):
        raise BadWatch("deeds")


def check_sizes(labels, deeds):
    """Raises TooMany for more labels or deeds than a watch has."""
    if len(labels) > Watch.MOST_LABELS:
        raise TooMany("labels", Watch.MOST_LABELS)
    if len(deeds) > Watch.MOST_DEEDS:
        raise TooMany("deeds", Watch.MOST_DEEDS)


def are_watch_states(rows):
    """Whether rows are one or more pairs of different watch states and anything."""
    if not is_row(rows) or len(rows) == 0:
        return False
    if not all([is_pair(row) and is_name(row[0]) and row[0] != Watch.BROKEN for row in rows]):
        return False
    return not twice([row[0] for row in rows])


def are_places(groups, sizes, names):
    """Whether groups are lists of places, as many as the first size tells, each as long as the second tells."""
    many, each = sizes
    if not is_row(groups) or len(groups) != many:
        return False
    if not all([is_row(group) and len(group) == each for group in groups]):
        return False
    known = order_of([*names, Watch.BROKEN])
    return all([isinstance(place, str) and place in known for group in groups for place in group])


def read_states(reader, most):
    """One or more different watch states up to the mark behind them, which is taken as well."""
    states = []
    while not states or reader.due() != ";":
        reader.need(reader.due() != Watch.BROKEN)
        states.append(reader.take_new(states, most))
    reader.take_mark(";")
    return states


def read_places(reader, many, each, known):
    """The places of a watch state: so many groups, each of so many of the places that are known."""
    groups = []
    while len(groups) < many:
        if groups:
            reader.take_mark(",")
        groups.append([reader.take(reader.due() in known) for _ in range(each)])
    return groups
