"""Papers, which tell an answer and what shows it."""


def fixed(value):
    """The value with tuples for all lists and dicts in it."""
    if isinstance(value, dict):
        return tuple([(key, fixed(value[key])) for key in sorted(value)])
    if isinstance(value, (list, tuple)):
        return tuple([fixed(part) for part in value])
    return value


class Paper:
    """An answer and what shows it."""

    def __init__(self, word, *parts):
        self.word = word
        self.parts = fixed(parts)

    def __eq__(self, other):
        if not isinstance(other, Paper) or self.__class__.__name__ != other.__class__.__name__:
            return False
        return self.word == other.word and self.parts == other.parts


class Denial(Paper):
    """A paper that says no."""

    def __init__(self, word, *parts):
        super().__init__(word, *parts)

    def __bool__(self):
        return False


def is_called(paper, name):
    """Whether a paper was made by calling the class of this name itself: one below it is another class."""
    return paper.__class__.__name__ == name
