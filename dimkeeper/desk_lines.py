"""The lines of a desk, taken apart word by word."""

from dimkeeper.blurs import Blur
from dimkeeper.checks import is_stem
from dimkeeper.errors import BadText
from dimkeeper.reader import Reader
from dimkeeper.stories import Story
from dimkeeper.tables import Table
from dimkeeper.tasks import MOST_PAGES, Task
from dimkeeper.waits import Wait
from dimkeeper.watches import Watch
from dimkeeper.worlds import World

KINDS = ("world", "blur", "watch", "table", "wait", "story")
# What stands behind the first word: a stem, a value of a kind or of any by its name, a name, a number, or a text.
LINES = {
    "set": ("stem", "text"),
    "task": ("stem", "world", "blur", "watch"),
    "merge": ("stem", "world"),
    "find": ("stem", "task", "number"),
    "hall": ("task",),
    "see": ("name",),
    "do": ("name",),
    "undo": (),
    "follow": ("table", "number"),
    "show": ("any",),
    "judge": ("task",),
    "least": ("task",),
    "count": ("task", "number"),
    "holds": ("task", "table"),
    "alike": ("world", "world"),
    "delay": ("task", "wait", "number"),
    "sure": ("task", "number"),
    "rank": (),
}


def taken_apart(line, values):
    """The first word of a line and the list of what stands behind it, where these values are kept."""
    reader = Reader(line)
    word = reader.take(reader.due() in LINES)
    parts = [taken_part(reader, kind, values) for kind in LINES[word]]
    reader.take_mark(None)
    return word, parts


def taken_part(reader, kind, values):
    """The part of this kind that is due in a line."""
    if kind == "stem":
        return reader.take(is_stem(reader.due()))
    if kind == "name":
        return reader.take_name()
    if kind == "number":
        return reader.take_number(1, MOST_PAGES)
    if kind == "text":
        return taken_text(reader)
    name = reader.due()
    reader.take(name in values and is_of_kind(values[name], kind))
    return values[name]


def is_of_kind(value, kind):
    """Whether a kept value is of a kind, or of any."""
    if kind == "world":
        return isinstance(value, World)
    if kind == "blur":
        return isinstance(value, Blur)
    if kind == "watch":
        return isinstance(value, Watch)
    if kind == "table":
        return isinstance(value, Table)
    if kind == "wait":
        return isinstance(value, Wait)
    if kind == "task":
        return isinstance(value, Task)
    return True


def taken_text(reader):
    """The value that is read from its kind and the rest of the line."""
    kind = reader.take(reader.due() in KINDS)
    ahead = reader.at
    text = " ".join(reader.words[ahead:])
    try:
        value = read_value(kind, text)
    except BadText as error:
        raise BadText(0, ahead + error.word)
    reader.at = len(reader.words)
    return value


def read_value(kind, text):
    """The value of this kind with this text."""
    if kind == "world":
        return World.read(text)
    if kind == "blur":
        return Blur.read(text)
    if kind == "watch":
        return Watch.read(text)
    if kind == "table":
        return Table.read(text)
    if kind == "wait":
        return Wait.read(text)
    return Story.read(text)
