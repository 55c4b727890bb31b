"""The whole search for a table of so many pages."""

from dimkeeper.errors import TooMany
from dimkeeper.orders import each_once
from dimkeeper.steps import Steps
from dimkeeper.tables import Table
from dimkeeper.tasks import choices
from dimkeeper.walks import walk_until, way_to

MOST_SEARCHED = 100000


def check_searched(task, k):
    """Raises what is told of a task and a number of pages for which all tables are searched."""
    if choices(task, k) > MOST_SEARCHED:
        raise TooMany("choices", MOST_SEARCHED)


class Question:
    """A question on the way: its cell, the greatest used page, and where it finds the walk and the triples."""

    def __init__(self, cell, used, width, marks):
        self.cell = cell
        self.used = used
        self.width = width
        self.marks = marks
        self.tried = 0


class Search:
    """Stands at a question, a leaf or an end of the whole search, at first at its first question.

    A triple is a pair of the number of a stand, as Steps has it, and a page. What comes about only grows as more
    cells are answered, so what was found ahead of an answer stays.
    """

    ASK = "ask"
    LEAF = "leaf"
    END = "end"

    def __init__(self, task, k):
        self.task = task
        self.k = k
        self.steps = Steps(task)
        self.here = self.ASK
        self.used = 1
        self.questions = []
        self._entries = {}
        self._sights = {state: task.sight_of(state) for state in task.states}
        self._walk = list(each_once([(state, 1) for state, kept in task.standing]))
        self._walked = {spot: True for spot in self._walk}
        # The walk is known up to here: the cells of the spots ahead are answered.
        self._at = 0
        self._triples = []
        self._met = {}
        self._waiting = {}
        for number in self.steps.begun():
            self._meet(number, 1)
        self._ask(self._due())

    def go_on(self):
        """Goes to the next question, leaf or end, by the deeds in order, then by the pages; behind the last to None."""
        if self.here != self.ASK:
            self._take_back()
        if not self.questions:
            self.here = None
            return
        self._give_answer()
        if self._is_leaf():
            self.here = self.LEAF
            return
        cell = self._due()
        if cell is None:
            self.here = self.END
        else:
            self.here = self.ASK
            self._ask(cell)

    def goes_to_end(self):
        """Goes on to the next end; whether there is one."""
        self.go_on()
        while self.here is not None and self.here != self.END:
            self.go_on()
        return self.here is not None

    def given(self):
        """The answers above, in order."""
        return tuple([(*cell, *entry) for cell, entry in self._entries.items()])

    def end_table(self):
        """The table that stands at an end."""
        return Table(self.used, self.given())

    def leaf_play(self):
        """The first stand, and the states, of the play with which a leaf ends."""
        return self.shortest_break()

    def shortest_break(self):
        """The first stand, and the states, of the shortest play that breaks by the answers above, or None."""
        ahead, fault = walk_until([(number, 1) for number in self.steps.begun()], lambda triple: self._led_to(triple))
        if fault is None:
            return None
        stands = [self.steps.stand_of(number) for number, page in way_to(ahead, fault)]
        return stands[0], [state for state, kept in stands]

    def _led_to(self, triple):
        """The triples to which a triple leads, none if its cell is not answered; None if the deed breaks."""
        entry = self._entries.get((triple[1], self.steps.sight_at(triple[0])), None)
        if entry is None:
            return ()
        behind = self.steps.behind(triple[0], entry[0])
        return None if behind is None else [(number, entry[1]) for number in behind]

    def _ask(self, cell):
        marks = (len(self._walk), self._at, len(self._triples))
        self.questions.append(Question(cell, self.used, min(self.used + 1, self.k), marks))

    def _due(self):
        """The first needed cell that is not answered, or None."""
        while self._at < len(self._walk):
            state, page = self._walk[self._at]
            cell = (page, self._sights[state])
            if cell not in self._entries:
                return cell
            deed, after = self._entries[cell]
            for reached in self.task.world.nexts(state, deed):
                if (reached, after) not in self._walked:
                    self._walked[reached, after] = True
                    self._walk.append((reached, after))
            self._at += 1
        return None

    def _meet(self, number, page):
        """Puts a triple among those that come about; whether it is new, and its cell is answered."""
        if (number, page) in self._met:
            return False
        cell = (page, self.steps.sight_at(number))
        self._met[number, page] = True
        self._triples.append((number, page))
        self._waiting.setdefault(cell, []).append((number, page))
        return cell in self._entries

    def _give_answer(self):
        """Gives the next answer to the last question."""
        question = self.questions[-1]
        deed = self.steps.deeds[question.tried // question.width]
        page = question.tried % question.width + 1
        question.tried += 1
        self._entries[question.cell] = (deed, page)
        self.used = max(question.used, page)

    def _is_leaf(self):
        """Whether a play breaks by the answers above, the last one of which is new."""
        due = list(self._waiting.get(self.questions[-1].cell, ()))
        while due:
            behind = self._led_to(due.pop())
            if behind is None:
                return True
            for number, after in behind:
                if self._meet(number, after):
                    due.append((number, after))
        return False

    def _take_back(self):
        """Takes back the last answer, and the questions all answers to which were given."""
        self._forget()
        while self.questions and self._is_over(self.questions[-1]):
            self.questions.pop()
            if self.questions:
                self._forget()

    def _is_over(self, question):
        return question.tried == len(self.steps.deeds) * question.width

    def _forget(self):
        """Takes back the answer to the last question, with all that came about by it."""
        question = self.questions[-1]
        del self._entries[question.cell]
        self.used = question.used
        walked, self._at, met = question.marks
        while len(self._walk) > walked:
            del self._walked[self._walk.pop()]
        while len(self._triples) > met:
            triple = self._triples.pop()
            del self._met[triple]
            self._waiting[triple[1], self.steps.sight_at(triple[0])].pop()
