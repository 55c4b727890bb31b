from common import Case, chances, of_every_kind
from table_hands import cells_of, lacking_by_hand, random_table
from test_plays import FLAT, TASK
from wait_hands import delay_by_hand, delay_is_right, heights_by_hand, random_wait, ring_by_hand, waiting_task

from dimkeeper.blurs import Blur
from dimkeeper.errors import BadTable, BadTask, BadWait, NoEntry, Unlike
from dimkeeper.heights import Delay, Ring, delay
from dimkeeper.papers import Denial, Paper
from dimkeeper.promises import anything, never
from dimkeeper.tables import Table
from dimkeeper.tasks import Task
from dimkeeper.waits import Wait
from dimkeeper.worlds import World

HALL = World(["a", "b"], [("h0", "h", (["e1"], ["e2"])), ("e1", "e", (["e2"], ["h0"])), ("e2", "e", (["e3"], ["e3"])),
                          ("e3", "e", (["h0"], ["h0"]))], ["h0"])
DIM = Task(HALL, Blur.alike(HALL.labels), anything(HALL.labels, HALL.deeds))
HOME = Wait.again(["h"])
SLOW = delay(DIM, Table(1, [(1, "dark", "b", 1)]), HOME)


def ways_task(many):
    """A row of so many states, answered at the last one, that leads back to the first."""
    states = [f"s{at}" for at in range(many)]
    world = World(["d"], [(state, "h" if state == states[-1] else "e", [[after]])
                          for state, after in zip(states, states[1:] + states[:1])], ["s0"])
    return Task(world, Blur.alike(["h", "e"]), anything(["h", "e"], ["d"]))


class Heights(Case):

    def test_example(self):
        self.assertEqual([SLOW.number, SLOW.heights, delay(DIM, Table(2, [(1, "dark", "a", 2), (2, "dark", "b", 1)]), HOME).number],
                         [3, (("h0", 1, 1), ("e2", 1, 3), ("e3", 1, 2)), 2])
        self.assertEqual(delay(DIM, Table(1, [(1, "dark", "a", 1)]), Wait(["h"], ["x"])).word, "ring")
        self.assertEqual(SLOW.play, ("h0", "e2", "e3", "h0"))

    def test_papers(self):
        paper = Delay(3, [["h0", 1, 1]], ["h0"])
        self.assertEqual((paper.word, paper.parts, bool(paper), isinstance(paper, Denial), isinstance(paper, Paper)),
                         ("delay", (3, (("h0", 1, 1),), ("h0",)), True, False, True))
        self.assertEqual((paper.number, paper.heights, paper.play), paper.parts)
        self.assertEqual(Delay(play=("h0",), number=3, heights=(("h0", 1, 1),)), paper)
        ring = Ring(["h0", "h0"], 0)
        self.assertEqual((ring.word, ring.parts, bool(ring), isinstance(ring, Denial)), ("ring", (("h0", "h0"), 0), False, True))
        self.assertEqual((ring.play, ring.at), ring.parts)
        self.assertEqual(Ring(at=0, play=("h0", "h0")), ring)
        self.same([paper, Delay(2, [["h0", 1, 1]], ["h0"]), Delay(3, [], ["h0"]), ring, Ring(["h0", "h0"], 1),
                   Paper("delay", *paper.parts), Denial("ring", *ring.parts)])

    def test_by_hand(self):
        seen = {}
        for chance in chances(500):
            task = waiting_task(chance, 1, 10 ** 6)
            table, wait = random_table(chance, task, 3, 0.05), random_wait(chance, task)
            cells = cells_of(table)
            lack = lacking_by_hand(task, cells)
            if lack is not None:
                self.fails(NoEntry(*lack), delay, task, table, wait)
                seen["lack"] = True
                continue
            paper = delay(task, table, wait)
            self.assertEqual(delay(task, table, wait), paper)
            number = delay_by_hand(task, cells, wait)
            if number is None:
                self.assertIsInstance(paper, Ring)
                self.assertTrue(ring_by_hand(task, cells, wait, paper.play, paper.at))
            else:
                self.assertIsInstance(paper, Delay)
                self.assertEqual((paper.number, paper.heights), (number, heights_by_hand(task, cells, wait)))
                self.assertTrue(delay_is_right(task, cells, wait, paper))
            seen[number] = True
        self.assertTrue({"lack", None, 0, 1, 2, 3, 4} <= set(seen), seen)

    def test_what_is_asked(self):
        task = ways_task(5)
        table = Table(1, [(1, "dark", "d", 1)])
        for wait, number, play in [(Wait(["e"], ["h"]), 5, 5), (Wait(["h"], ["h"]), 1, 5), (Wait(["h"], ["e"]), 2, 6),
                                   (Wait(["odd"], ["h"]), 0, 0), (Wait(None, ["h", "e"]), 1, 1), (Wait(["odd"], ["odd"]), 0, 0),
                                   (Wait(["odd", "h"], ["odd", "e"]), 2, 6)]:
            paper = delay(task, table, wait)
            self.assertEqual((paper.number, len(paper.play)), (number, play))
        self.assertEqual(delay(task, table, Wait(["odd"], ["h"])), Delay(0, (), ()))
        self.assertEqual(delay(task, table, Wait(["h"], ["odd"])).word, "ring")
        self.assertEqual(delay(task, table, Wait(["h"], ["h"])).heights, (("s4", 1, 1),))
        self.assertEqual(delay(task, table, Wait(["h"], ["e"])).heights, (("s0", 1, 1), ("s4", 1, 2)))

    def test_the_watch_has_no_say(self):
        # Plays go on behind a break: the table waits as long as with a promise that is never broken.
        broken = DIM.changed(watch=never(HALL.labels, HALL.deeds, HALL.labels))
        table = Table(1, [(1, "dark", "b", 1)])
        self.assertEqual(delay(broken, table, HOME), SLOW)

    def test_long_waits(self):
        task = ways_task(200)
        paper = delay(task, Table(1, [(1, "dark", "d", 1)]), HOME)
        self.assertEqual((paper.number, len(paper.heights), len(paper.play)), (200, 200, 200))
        pages = Table(200, [(page, "dark", "d", page + 1 if page < 200 else 1) for page in range(1, 201)])
        paper = delay(task, pages, Wait(["e"], ["odd"]))
        self.assertEqual((paper.word, len(paper.play)), ("ring", 201))

    def test_errors(self):
        table = Table(1, [(1, "dark", "b", 1)])
        odd = Table(2, [(1, "dark", "b", 2), (2, "odd", "c", 1)])
        for value in of_every_kind():
            self.fails(BadTask("task"), delay, value, value, value)
            self.fails(BadTable("table"), delay, DIM, value, value)
            self.fails(BadWait("wait"), delay, DIM, odd, value)
        self.fails(Unlike("deeds"), delay, DIM, odd, HOME)
        self.fails(NoEntry(2, "dark"), delay, DIM, Table(2, [(1, "dark", "b", 2)]), HOME)
        self.fails(NoEntry(1, "dark"), delay, DIM, Table(2, [(2, "dark", "b", 2)]), HOME)
        self.fails(BadWait("wait"), delay, TASK, FLAT, "* / h")
        self.assertEqual(delay(DIM, table, HOME), SLOW)
