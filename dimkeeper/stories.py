"""Stories: what was seen and done, step by step, and what may be behind it."""

from dimkeeper.checks import is_name, is_one_of, is_pair, is_row
from dimkeeper.errors import BadStory, NoDeed, NoSight, NoWay
from dimkeeper.orders import each_once, order_of
from dimkeeper.reader import Reader
from dimkeeper.tasks import check_task
from dimkeeper.watches import Watch

SEE = "see"
DO = "do"
STORY = "story"


class Story:
    """Steps by turns, a sight first."""

    def __init__(self, steps):
        if not is_row(steps) or not all([is_step(step, at) for at, step in enumerate(steps)]):
            raise BadStory("steps")
        self.steps = tuple([tuple(step) for step in steps])

    def __len__(self):
        return len(self.steps)

    def __eq__(self, other):
        return isinstance(other, Story) and self.steps == other.steps

    def __str__(self):
        return " ".join([STORY, " / ".join([" ".join(step) for step in self.steps])] if self.steps else [STORY])

    @classmethod
    def read(cls, text):
        """The story with this text."""
        reader = Reader(text)
        reader.take_mark(STORY)
        steps = []
        while reader.due() is not None:
            if steps:
                reader.take_mark("/")
            due = due_at(len(steps))
            reader.take_mark(due)
            steps.append((due, reader.take_name()))
        return cls(steps)


def due_at(at):
    """What the step at a place does: sees or does."""
    return SEE if at % 2 == 0 else DO


def is_step(value, at):
    """Whether a value is the step of a story at a place."""
    return is_pair(value) and is_one_of(value[0], (due_at(at),)) and is_name(value[1])


def check_story(value):
    """Raises BadStory unless the value is a story."""
    if not isinstance(value, Story):
        raise BadStory("story")


def pairs_seen(task, pairs, sight):
    """The pairs (state, place) that may be behind a sight."""
    if not is_one_of(sight, task.blur.sights):
        raise NoSight(sight)
    shown = tuple([pair for pair in pairs if task.sight_of(pair[0]) == sight])
    if not shown:
        raise NoWay(sight)
    return shown


def pairs_done(task, pairs, deed):
    """The pairs (state, place) that may be behind a deed."""
    if not is_one_of(deed, task.world.deeds):
        raise NoDeed(deed)
    states = order_of(task.world.states)
    places = order_of([*task.watch.states, Watch.BROKEN])
    behind = [(after, task.watch.place_behind(place, task.world.label_of(state), deed))
              for state, place in pairs for after in task.world.nexts(state, deed)]
    return tuple(sorted(each_once(behind), key=lambda pair: (states[pair[0]], places[pair[1]])))


def pairs_behind(task, pairs, step):
    """The pairs that may be behind a step of a story."""
    return pairs_seen(task, pairs, step[1]) if step[0] == SEE else pairs_done(task, pairs, step[1])


def may_be(task, story):
    """The pairs (state, place) that may be behind a story."""
    check_task(task)
    check_story(story)
    pairs = task.standing
    for step in story.steps:
        pairs = pairs_behind(task, pairs, step)
    return pairs


def moments_told(story):
    """The sight and the deed of each moment of a story that has begun, None for what is still due."""
    names = [step[1] for step in story.steps]
    if len(names) % 2 == 0:
        names.append(None)
    names.append(None)
    return [(names[at], names[at + 1]) for at in range(0, len(names), 2)]


def is_shown(task, state, sight):
    """Whether a state shows a sight; each one shows None."""
    return sight is None or task.sight_of(state) == sight


def counts_on(task, story):
    """For each moment of a story that has begun the states that show its sight and how many ways go on from them."""
    moments = moments_told(story)
    counts = [{state: 1 for state in task.world if is_shown(task, state, moments[-1][0])}]
    for sight, deed in moments[-2::-1]:
        behind = counts[-1]
        ways = {state: sum([behind.get(after, 0) for after in task.world.nexts(state, deed)]) for state in task.world}
        counts.append({state: ways[state] for state in ways if ways[state] and is_shown(task, state, sight)})
    return counts[::-1]


def first_states(task):
    """The states of the standing, in order."""
    return each_once([state for state, kept in task.standing])


def count_ways(task, story):
    """How many ways fit a story."""
    may_be(task, story)
    counts = counts_on(task, story)[0]
    return sum([counts.get(state, 0) for state in first_states(task)])


def ways_of(task, story):
    """Yields the ways that fit a story, in the order of their states."""
    may_be(task, story)
    counts = counts_on(task, story)
    deeds = [deed for sight, deed in moments_told(story)]
    # For each place of the way the states that may still stand there, the next one last.
    due = [[state for state in first_states(task) if state in counts[0]][::-1]]
    way = []
    while due:
        if not due[-1]:
            due.pop()
            if way:
                way.pop()
            continue
        way.append(due[-1].pop())
        if len(way) == len(counts):
            yield tuple(way)
            way.pop()
        else:
            nexts = task.world.nexts(way[-1], deeds[len(way) - 1])
            due.append([state for state in nexts if state in counts[len(way)]][::-1])
