"""Blurs: which sight each label shows."""

from dimkeeper.checks import are_named, are_names, is_name
from dimkeeper.errors import BadBlur, NoLabel, NoSight, TooMany, Unlike
from dimkeeper.reader import Reader

MOST_SHARED_OUT = 5


class Blur:
    """A blur over one label or more."""

    MOST = 200

    def __init__(self, shown):
        if not are_named(shown, None) or len(shown) == 0:
            raise BadBlur("shown")
        if len(shown) > self.MOST:
            raise TooMany("labels", self.MOST)
        self.labels = tuple(sorted(shown))
        self.sights = tuple(sorted(set(list(shown.values()))))
        self._shown = {label: shown[label] for label in self.labels}

    def sight_of(self, label):
        """The sight of a label."""
        if label not in self:
            raise NoLabel(label)
        return self._shown[label]

    def labels_of(self, sight):
        """The labels with a sight."""
        if not isinstance(sight, str) or sight not in self.sights:
            raise NoSight(sight)
        return tuple([label for label in self.labels if self._shown[label] == sight])

    @staticmethod
    def apart(labels):
        """The blur in which each label is its own sight."""
        check_labels(labels)
        return Blur({label: label for label in labels})

    @staticmethod
    def alike(labels, sight="dark"):
        """The blur in which all labels have this sight."""
        check_labels(labels)
        if not is_name(sight):
            raise BadBlur("sight")
        return Blur({label: sight for label in labels})

    def __len__(self):
        return len(self.labels)

    def __iter__(self):
        return iter(self.labels)

    def __contains__(self, value):
        return isinstance(value, str) and value in self._shown

    def __eq__(self, other):
        return isinstance(other, Blur) and self._shown == other._shown

    def __str__(self):
        return " ".join([f"{label} {self._shown[label]}" for label in self.labels])

    @classmethod
    def read(cls, text):
        """The blur with this text."""
        reader = Reader(text)
        shown = {}
        last = ""
        while reader.due() is not None:
            reader.need(len(shown) < cls.MOST and is_name(reader.due()))
            last = reader.take(reader.due() > last)
            shown[last] = reader.take_name()
        return cls(shown)


def check_blur(value, part):
    """Raises BadBlur unless the value is a blur."""
    if not isinstance(value, Blur):
        raise BadBlur(part)


def check_labels(labels):
    """Raises BadBlur unless labels are one or more different names."""
    if not are_names(labels):
        raise BadBlur("labels")


def is_finer(one, other):
    """Whether labels with one sight in one blur have one sight in the other, too."""
    check_blur(one, "one")
    check_blur(other, "other")
    if one.labels != other.labels:
        raise Unlike("labels")
    coarse = {one.sight_of(label): other.sight_of(label) for label in one.labels}
    return all([coarse[one.sight_of(label)] == other.sight_of(label) for label in one.labels])


def blurs_of(labels):
    """Yields a blur for each way to share the labels out into groups."""
    check_labels(labels)
    if len(labels) > MOST_SHARED_OUT:
        raise TooMany("labels", MOST_SHARED_OUT)
    ascending = sorted(labels)
    shares = [()]
    for label in ascending:
        # A label joins the group of a label ahead of it, or is the least one of a new group.
        shares = [(*share, least) for share in shares for least in [*sorted(set(share)), label]]
    for sights in sorted(shares, key=lambda row: (len(set(row)), row)):
        yield Blur({label: sight for label, sight in zip(ascending, sights)})
