"""The errors of the package, each of which keeps its fields in attributes."""


class DimError(ValueError):
    """The base of all errors of the package."""


class BadWorld(DimError):
    """Something else was passed for a world, or what one is made of."""

    def __init__(self, part):
        self.part = part


class BadBlur(DimError):
    """Something else was passed for a blur, or what one is made of."""

    def __init__(self, part):
        self.part = part


class BadWatch(DimError):
    """Something else was passed for a watch, or what one is made of."""

    def __init__(self, part):
        self.part = part


class BadTask(DimError):
    """Something else was passed for a task."""

    def __init__(self, part):
        self.part = part


class BadStanding(DimError):
    """Something else was passed for a standing, or a stand."""

    def __init__(self, part):
        self.part = part


class BadTable(DimError):
    """Something else was passed for a table, or what one is made of."""

    def __init__(self, part):
        self.part = part


class BadPlay(DimError):
    """Something else was passed for what a play is made of."""

    def __init__(self, part):
        self.part = part


class BadView(DimError):
    """Something else was passed for a view, or a row of views."""

    def __init__(self, part):
        self.part = part


class BadLog(DimError):
    """Something else was passed for a log."""

    def __init__(self, part):
        self.part = part


class BadTree(DimError):
    """Something else was passed for a tree, or what one is made of."""

    def __init__(self, part):
        self.part = part


class BadRow(DimError):
    """Something else was passed for a row of labels and deeds."""

    def __init__(self, part):
        self.part = part


class BadGroups(DimError):
    """Something else was passed for groups of states."""

    def __init__(self, part):
        self.part = part


class BadWait(DimError):
    """Something else was passed for a wait, or what one is made of."""

    def __init__(self, part):
        self.part = part


class BadSmudges(DimError):
    """Something else was passed for smudges, or what they are made of."""

    def __init__(self, part):
        self.part = part


class BadRoster(DimError):
    """Something else was passed for a roster, or what goes by one."""

    def __init__(self, part):
        self.part = part


class BadFog(DimError):
    """Something else was passed for a fog."""

    def __init__(self, part):
        self.part = part


class BadFront(DimError):
    """Something else was passed for what a front is asked of."""

    def __init__(self, part):
        self.part = part


class BadHall(DimError):
    """Something else was passed for a hall."""

    def __init__(self, part):
        self.part = part


class BadStory(DimError):
    """Something else was passed for a story, or what one is made of."""

    def __init__(self, part):
        self.part = part


class BadNumbers(DimError):
    """Something else was passed for a number."""

    def __init__(self, part):
        self.part = part


class BadPaper(DimError):
    """Something else was passed for a paper."""

    def __init__(self, part):
        self.part = part


class Missing(DimError):
    """A value that is none here. Only the classes below it are raised."""

    def __init__(self, name):
        self.name = name


class NoState(Missing):
    """A value that is no state here."""


class NoLabel(Missing):
    """A value that is no label here."""


class NoDeed(Missing):
    """A value that is no deed here."""


class NoSight(Missing):
    """A value that is no sight here."""


class NoWatchState(Missing):
    """A value that is no watch state here."""


class NoName(Missing):
    """A value that is no name of the desk here."""


class NoEntry(DimError):
    """A cell that lacks an entry."""

    def __init__(self, page, sight):
        self.page = page
        self.sight = sight


class NoTable(DimError):
    """A number that no table of a list has."""

    def __init__(self, number):
        self.number = number


class NotKept(DimError):
    """A table that does not do what is wanted of it."""

    def __init__(self, why):
        self.why = why


class Twice(DimError):
    """A name that would be made twice, or that was told twice."""

    def __init__(self, name):
        self.name = name


class Unlike(DimError):
    """Two values that do not fit together."""

    def __init__(self, what):
        self.what = what


class Breaks(DimError):
    """A stand that breaks the promise, or at which a deed does."""

    def __init__(self, state, place):
        self.state = state
        self.place = place


class NotNow(DimError):
    """Something that is not due."""

    def __init__(self, what):
        self.what = what


class NoWay(DimError):
    """A sight that nothing shows which may be now."""

    def __init__(self, sight):
        self.sight = sight


class Ended(DimError):
    """Something that is over."""


class Nothing(DimError):
    """There is nothing to take back, or to do it with."""


class TooMany(DimError):
    """More than the program goes into."""

    def __init__(self, what, most):
        self.what = what
        self.most = most


class BadText(DimError):
    """A text in which a word cannot stand."""

    def __init__(self, line, word):
        self.line = line
        self.word = word


class BadLine(DimError):
    """A line of a desk that raised an error."""

    def __init__(self, line, error):
        self.line = line
        self.error = error
