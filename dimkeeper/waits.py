"""Waits: which labels ask, and which ones answer."""

from dimkeeper.checks import are_names, is_name, is_one_of
from dimkeeper.errors import BadWait, TooMany
from dimkeeper.reader import Reader

MOST_LABELS = 200
ALL = "*"


class Wait:
    """A wait for answers; the asked labels are None where all labels are asked."""

    def __init__(self, asked, answers):
        if asked is not None and not are_names(asked):
            raise BadWait("asked")
        if not are_names(answers):
            raise BadWait("answers")
        if asked is not None and len(asked) > MOST_LABELS or len(answers) > MOST_LABELS:
            raise TooMany("labels", MOST_LABELS)
        self.asked = None if asked is None else tuple(sorted(asked))
        self.answers = tuple(sorted(answers))

    @staticmethod
    def again(answers):
        """The wait in which all labels are asked."""
        return Wait(None, answers)

    def is_asked(self, value):
        """Whether any value is an asked label."""
        return is_name(value) if self.asked is None else is_one_of(value, self.asked)

    def is_answer(self, value):
        """Whether any value is an answer."""
        return is_one_of(value, self.answers)

    def __eq__(self, other):
        return isinstance(other, Wait) and self.asked == other.asked and self.answers == other.answers

    def __str__(self):
        asked = [ALL] if self.asked is None else self.asked
        return " ".join([*asked, "/", *self.answers])

    @classmethod
    def read(cls, text):
        """The wait with this text."""
        reader = Reader(text)
        asked = None
        if reader.due() == ALL:
            reader.take_mark(ALL)
            reader.take_mark("/")
        else:
            asked = reader.take_ascending([reader.take_name()], MOST_LABELS, "/")
        return cls(asked, reader.take_ascending([reader.take_name()], MOST_LABELS, None))


def check_wait(value):
    """Raises BadWait unless the value is a wait."""
    if not isinstance(value, Wait):
        raise BadWait("wait")
