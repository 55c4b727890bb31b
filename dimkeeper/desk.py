"""Desks: values kept under names, and one hall, worked with line by line."""

from dimkeeper.checks import is_one_of, is_row
from dimkeeper.desk_answers import answer_to, rank_text
from dimkeeper.desk_lines import taken_apart
from dimkeeper.errors import BadLine, BadText, DimError, NoName, Nothing
from dimkeeper.halls import Hall, replayed
from dimkeeper.keepers import first_kept
from dimkeeper.merges import coarsest
from dimkeeper.stories import SEE
from dimkeeper.tables import Table
from dimkeeper.tasks import Task

OF_HALL = ("see", "do", "undo", "follow", "rank")


class Desk:
    """A desk that was told these lines."""

    def __init__(self, lines=()):
        self._values = {}
        self._hall = None
        # The deeds that were not taken back: for each its line, what it was done to, and what was there ahead.
        self._deeds = []
        self.run(lines)

    def tell(self, line):
        """Does what a line says, and returns the answer."""
        word, parts = taken_apart(line, self._values)
        if word in OF_HALL and self._hall is None:
            raise Nothing()
        if word == "rank":
            return rank_text(self._hall.rank())
        if word in OF_HALL:
            return self._tell_hall(line, word, parts)
        if word == "hall":
            hall = Hall(parts[0])
            self._deeds.append((line, "hall", self._hall))
            self._hall = hall
            return "open"
        if word in ("set", "task"):
            value = parts[1] if word == "set" else Task(parts[1], parts[2], parts[3])
            self._keep(line, parts[0], value)
            return "set"
        if word == "merge":
            world = coarsest(parts[1])
            self._keep(line, parts[0], world)
            return str(len(world))
        if word == "find":
            return self._find(line, parts)
        return answer_to(word, parts)

    def _keep(self, line, name, value):
        self._deeds.append((line, "value", (name, self._values.get(name, None))))
        self._values[name] = value

    def _find(self, line, parts):
        name, task, k = parts
        paper = first_kept(task, k)
        if paper is None:
            return "none"
        self._keep(line, name, Table(paper.pages, paper.entries))
        return f"pages {paper.pages}"

    def _tell_hall(self, line, word, parts):
        answer = None
        undone = None
        if word == "undo":
            undone = self._hall.undo()
        elif word == "follow":
            answer = str(self._hall.followed(parts[0], parts[1]))
        elif word == "see":
            self._hall.see(parts[0])
        else:
            self._hall.do(parts[0])
        self._deeds.append((line, "step", undone))
        return f"{len(self._hall.pairs)} {self._hall.fate}" if answer is None else answer

    def run(self, lines):
        """The answers to lines, in order; if one raises an error, all is as it was ahead of them."""
        if not is_row(lines):
            raise BadLine(0, BadText(0, 0))
        many = len(self._deeds)
        answers = []
        for at, line in enumerate(lines):
            try:
                answers.append(self.tell(line))
            except DimError as error:
                while len(self._deeds) > many:
                    self.back()
                raise BadLine(at, error)
        return answers

    def back(self):
        """Takes back the last deed that was not taken back, and returns its line."""
        if not self._deeds:
            raise Nothing()
        line, kind, ahead = self._deeds.pop()
        if kind == "hall":
            self._hall = ahead
        elif kind == "value":
            self._put_back(ahead[0], ahead[1])
        elif ahead is None:
            self._hall.undo()
        else:
            self._redo(ahead)
        return line

    def _put_back(self, name, value):
        if value is None:
            del self._values[name]
        else:
            self._values[name] = value

    def _redo(self, step):
        if step[0] == SEE:
            self._hall.see(step[1])
        else:
            self._hall.do(step[1])

    def told_lines(self):
        """The lines of the deeds that were not taken back."""
        return tuple([deed[0] for deed in self._deeds])

    def kept_names(self):
        """The names under which values are kept, ascending."""
        return tuple(sorted(self._values))

    def value_of(self, name):
        """The value that is kept under a name."""
        if not is_one_of(name, self._values):
            raise NoName(name)
        return self._values[name]

    def hall_now(self):
        """A new hall that stands as the open one does, or None."""
        return None if self._hall is None else replayed(self._hall.task, self._hall.story)

    def __eq__(self, other):
        return isinstance(other, Desk) and self._values == other._values and self._hall == other._hall
