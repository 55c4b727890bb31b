"""Worlds: states with labels, and the next states of each under each deed."""

from dimkeeper.checks import are_names, are_some_of, is_name, is_row, twice
from dimkeeper.errors import BadWorld, NoDeed, NoState, TooMany
from dimkeeper.orders import come_about, each_once, order_of
from dimkeeper.reader import Reader


class World:
    """A world; its deeds and states keep the order in which they are told."""

    MOST_DEEDS = 12
    MOST_STATES = 200

    def __init__(self, deeds, states, starts):
        if not are_names(deeds):
            raise BadWorld("deeds")
        if not are_states(states):
            raise BadWorld("states")
        order = order_of([row[0] for row in states])
        if not all([are_nexts(row[2], len(deeds), order) for row in states]):
            raise BadWorld("next")
        if not are_some_of(starts, order):
            raise BadWorld("starts")
        if len(deeds) > self.MOST_DEEDS:
            raise TooMany("deeds", self.MOST_DEEDS)
        if len(states) > self.MOST_STATES:
            raise TooMany("states", self.MOST_STATES)
        self.deeds = tuple(deeds)
        self.states = tuple(order)
        self.starts = put_in_order(starts, order)
        self.labels = each_once([row[1] for row in states])
        self._labels = {row[0]: row[1] for row in states}
        self._nexts = {row[0]: nexts_by_deed(deeds, row[2], order) for row in states}

    def label_of(self, state):
        """The label of a state."""
        if state not in self:
            raise NoState(state)
        return self._labels[state]

    def nexts(self, state, deed):
        """The next states of a state under a deed."""
        if state not in self:
            raise NoState(state)
        by_deed = self._nexts[state]
        if not isinstance(deed, str) or deed not in by_deed:
            raise NoDeed(deed)
        return by_deed[deed]

    def begun(self, *starts):
        """The same world with other starts."""
        return World(self.deeds, self._rows(self.states), starts)

    def cut(self):
        """The same world with the states that come about alone."""
        met = order_of(come_about(self.starts, lambda state: self.all_nexts(state)))
        return World(self.deeds, self._rows([state for state in self.states if state in met]), self.starts)

    def all_nexts(self, state):
        """The next states of a state under all deeds, deed by deed."""
        return [after for deed in self.deeds for after in self._nexts[state][deed]]

    def _rows(self, states):
        return [(state, self._labels[state], list(self._nexts[state].values())) for state in states]

    def __len__(self):
        return len(self.states)

    def __iter__(self):
        return iter(self.states)

    def __contains__(self, value):
        return isinstance(value, str) and value in self._labels

    def __eq__(self, other):
        return (isinstance(other, World) and self.deeds == other.deeds and self.states == other.states
                and self.starts == other.starts and self._labels == other._labels
                and self._nexts == other._nexts)

    def __str__(self):
        states = [f"{state} {self._labels[state]}" for state in self.states]
        nexts = [nexts_text(self._nexts[state]) for state in self.states]
        return " ; ".join([" ".join(self.deeds), " ".join(states), " ".join(self.starts), " / ".join(nexts)])

    @classmethod
    def read(cls, text):
        """The world with this text."""
        reader = Reader(text)
        deeds = reader.take_different(cls.MOST_DEEDS, ";")
        labels = read_labels(reader, cls.MOST_STATES)
        order = order_of(labels)
        starts = reader.take_rising(order, ";")
        states = list(labels)
        rows = []
        for state in states:
            end = "/" if state != states[-1] else None
            nexts = [reader.take_rising(order, "," if deed != deeds[-1] else end) for deed in deeds]
            rows.append((state, labels[state], nexts))
        return cls(deeds, rows, starts)


def check_world(value, part):
    """Raises BadWorld unless the value is a world."""
    if not isinstance(value, World):
        raise BadWorld(part)


def are_states(rows):
    """Whether rows are one or more triples of different names and names, with anything behind them."""
    if not is_row(rows) or len(rows) == 0:
        return False
    if not all([is_row(row) and len(row) == 3 and is_name(row[0]) and is_name(row[1]) for row in rows]):
        return False
    return not twice([row[0] for row in rows])


def are_nexts(nexts, many, order):
    """Whether a value has so many lists of different states, none of them empty."""
    return is_row(nexts) and len(nexts) == many and all([are_some_of(group, order) for group in nexts])


def put_in_order(names, order):
    """The tuple of the names by their places."""
    return tuple(sorted(names, key=lambda name: order[name]))


def nexts_by_deed(deeds, nexts, order):
    """The next states of a state, by the deed."""
    return {deed: put_in_order(group, order) for deed, group in zip(deeds, nexts)}


def nexts_text(by_deed):
    """The next states of one state, as they stand in a text."""
    groups = list(by_deed.values())
    return " , ".join([" ".join(group) for group in groups])


def read_labels(reader, most):
    """States and their labels up to the word behind them, which is taken as well; a dict."""
    labels = {}
    while not labels or reader.due() != ";":
        state = reader.take_new(labels, most)
        labels[state] = reader.take_name()
    reader.take_mark(";")
    return labels
