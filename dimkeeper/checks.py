"""What any value is: an integer, a stem, a name."""

from dimkeeper.errors import TooMany

LETTERS = "abcdefghijklmnopqrstuvwxyz"
DIGITS = "0123456789"
MOST_STEMS = 6
MOST_CHARACTERS = 12
GREATEST_NAME = "zzzzzzzzzzzz.zzzzzzzzzzzz.zzzzzzzzzzzz.zzzzzzzzzzzz.zzzzzzzzzzzz.zzzzzzzzzzzz"


def is_integer(value):
    """Whether a value is an integer; True and False are none."""
    return isinstance(value, int) and not isinstance(value, bool)


def is_within(value, least, most):
    """Whether a value is an integer from least to most; None is no bound."""
    if not is_integer(value):
        return False
    return (least is None or value >= least) and (most is None or value <= most)


def is_stem(value):
    """Whether a value is a stem."""
    if not isinstance(value, str) or not 1 <= len(value) <= MOST_CHARACTERS:
        return False
    return value[0] in LETTERS and all([sign in LETTERS or sign in DIGITS for sign in value])


def is_name(value):
    """Whether a value is a name: up to six stems with single dots between."""
    if not isinstance(value, str):
        return False
    stems = value.split(".")
    return len(stems) <= MOST_STEMS and all([is_stem(stem) for stem in stems])


def joined_name(*names):
    """The names joined by dots."""
    name = ".".join(names)
    if len(name.split(".")) > MOST_STEMS:
        raise TooMany("stems", MOST_STEMS)
    return name


def is_row(value):
    """Whether a value is a list or a tuple."""
    return isinstance(value, (list, tuple))


def is_pair(value):
    """Whether a value is a list or a tuple of two."""
    return is_row(value) and len(value) == 2


def is_one_of(value, names):
    """Whether any value is one of these names."""
    return isinstance(value, str) and value in names


def are_names(value):
    """Whether a value is a list or a tuple of one or more different names."""
    return is_row(value) and len(value) > 0 and all([is_name(name) for name in value]) and not twice(value)


def are_some_of(value, names):
    """Whether a value is a list or a tuple of one or more different names, all of them among these."""
    return are_names(value) and all([name in names for name in value])


def are_named(value, names):
    """Whether a value is a dict from names to names, the latter among these; None lets all names be."""
    if not isinstance(value, dict) or not all([is_name(key) for key in value]):
        return False
    olds = list(value.values())
    return all([is_name(old) and (names is None or old in names) for old in olds])


def twice(names):
    """Whether some name is told twice."""
    return len(set(names)) < len(names)
