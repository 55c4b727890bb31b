"""The fronts of delays and of moments."""

from common import Case, chances, of_every_kind
from table_hands import small_task
from test_heights import DIM, HOME
from test_keepers import BY_TURNS, free_task
from test_least import word_task
from test_refuse import chain_task
from wait_hands import delays_by_hand, most_moments_by_hand, random_wait, waiting_task

from dimkeeper.blurs import Blur
from dimkeeper.delay_fronts import DelayFront, delay_front
from dimkeeper.delays import least_delay
from dimkeeper.errors import BadNumbers, BadTask, BadWait, TooMany
from dimkeeper.keepers import first_kept
from dimkeeper.moment_fronts import MomentFront, moment_front
from dimkeeper.moments import sure_moments
from dimkeeper.papers import Denial, Paper
from dimkeeper.promises import anything
from dimkeeper.tasks import Task, choices
from dimkeeper.waits import Wait
from dimkeeper.watches import Watch
from dimkeeper.worlds import World

WORLD = World(["a", "b"], [("o", "h", (["p"], ["q"])), ("p", "e", (["p"], ["o"])), ("q", "e", (["q"], ["q"]))], ["o"])
BLIND = Task(WORLD, Blur.alike(["h", "e"]), anything(["h", "e"], ["a", "b"]))
SEEN = BLIND.changed(blur=Blur.apart(["h", "e"]))
STILL = World(["a", "b"], [("o", "r", (["o"], ["o"]))], ["o"])
AAB = Watch(["r"], ["a", "b"], [("u", (("v", "broken"),)), ("v", (("w", "broken"),)), ("w", (("broken", "u"),))])


def points_by_hand(numbers):
    """The pairs (pages, number) at which another number is told than with one page fewer; None is no number."""
    return tuple((k, number) for k, number in enumerate(numbers, 1)
                 if number is not None and (k == 1 or numbers[k - 2] != number))


def stretches(points, most):
    return [after - 1 for after in [k for k, _ in points[1:]] + [most + 1]] if points else []


class Fronts(Case):

    def test_example(self):
        self.assertEqual([delay_front(BLIND, HOME, 2).points, delay_front(SEEN, HOME, 2).points, delay_front(BLIND, HOME, 1).points],
                         [((2, 2),), ((1, 2),), ()])
        front = moment_front(Task(STILL, Blur.alike(["r"]), AAB), 3)
        self.assertEqual([front.points, front.steps[0][1].number, front.kept.pages], [((1, 2),), 2, 3])

    def test_papers(self):
        paper = DelayFront([[1, 2]], None, [[1, 2]])
        self.assertEqual((paper.word, paper.parts, bool(paper), isinstance(paper, Denial), isinstance(paper, Paper)),
                         ("delayfront", (((1, 2),), None, ((1, 2),)), True, False, True))
        self.assertEqual((paper.points, paper.never, paper.steps), paper.parts)
        self.assertEqual(DelayFront(steps=((1, 2),), never=None, points=((1, 2),)), paper)
        other = MomentFront([[1, 2]], [[1, 2]], None)
        self.assertEqual((other.word, other.parts, bool(other), isinstance(other, Denial)),
                         ("momentfront", (((1, 2),), ((1, 2),), None), True, False))
        self.assertEqual((other.points, other.steps, other.kept), other.parts)
        self.assertEqual(MomentFront(kept=None, points=((1, 2),), steps=((1, 2),)), other)
        self.same([paper, DelayFront([], None, [[1, 2]]), DelayFront([[1, 2]], 1, [[1, 2]]), other, MomentFront([], [], None),
                   Paper("delayfront", *paper.parts), Paper("momentfront", *other.parts)])

    def test_delay_fronts_by_hand(self):
        seen = {}
        for chance in chances(200):
            most = chance.choice([1, 2, 3])
            task = waiting_task(chance, most, 1300, most_states=4, most_deeds=2, most_labels=2)
            wait = random_wait(chance, task)
            rows = [[number for _, number in delays_by_hand(task, wait, k) if number is not None] for k in range(1, most + 1)]
            points = points_by_hand([min(row) if row else None for row in rows])
            front = delay_front(task, wait, most)
            self.assertEqual(front.points, points)
            ahead = points[0][0] - 1 if points else most
            self.assertEqual(front.never, least_delay(task, wait, ahead) if ahead else None)
            self.assertEqual(front.steps, tuple((least_delay(task, wait, k), least_delay(task, wait, last))
                                                for (k, _), last in zip(points, stretches(points, most))))
            seen[len(points), ahead > 0, most] = True
        self.assertTrue({(0, True, 1), (0, True, 2), (1, True, 2), (1, False, 2), (1, False, 1)} <= set(seen), seen)

    def test_a_long_delay_front(self):
        # A row that is walked to its end by the first deed, and answered by the second one there.
        rows = [(f"s{at}", "e", [[f"s{min(at + 1, 3)}"], ["h" if at == 3 else "s0"]]) for at in range(4)]
        world = World(["a", "b"], rows + [("h", "h", [["s0"], ["s0"]])], ["s0"])
        task = Task(world, Blur.alike(["e", "h"]), anything(["e", "h"], ["a", "b"]))
        front = delay_front(task, HOME, 5)
        self.assertEqual(front.points, ((4, 8), (5, 5)))
        self.assertEqual(front.never, least_delay(task, HOME, 3))
        self.assertEqual([(one.number, other.number) for one, other in front.steps], [(8, 8), (5, 5)])

    def test_moment_fronts_by_hand(self):
        seen = {}
        for chance in chances(260):
            most = chance.choice([1, 2, 3])
            task = small_task(chance, most, 1300, most_states=4, most_deeds=2, most_labels=2)
            if choices(task, most) > 1300:
                continue
            numbers = [most_moments_by_hand(task, k) for k in range(1, most + 1)]
            least = numbers.index(None) + 1 if None in numbers else None
            points = points_by_hand(numbers)
            front = moment_front(task, most)
            self.assertEqual(front.points, points)
            self.assertEqual(front.kept, first_kept(task, least) if least else None)
            lasts = stretches(points, least - 1 if least else most)
            self.assertEqual(front.steps, tuple((sure_moments(task, k), sure_moments(task, last))
                                                for (k, _), last in zip(points, lasts)))
            seen[len(points), least] = True
        self.assertTrue({(0, 1), (1, None), (1, 2)} <= set(seen), seen)

    def test_moments_of_words(self):
        for word, points in [("aab", ((1, 2),)), ("aabb", ((1, 2), (3, 4))), ("abba", ((1, 1), (2, 3), (3, 4))), ("a", ()), ("abab", ((1, 1),))]:
            front = moment_front(word_task(word), 4)
            self.assertEqual(front.points, points, word)
            self.assertEqual(front.kept.pages, {"aab": 3, "a": 1, "abab": 2}.get(word, 4))
            self.assertEqual(len(front.steps), len(points))
        front = moment_front(word_task("aabb"), 3)
        self.assertEqual((front.points, front.kept), (((1, 2), (3, 4)), None))
        self.assertEqual([[(one.number, one.tree.depth) for one in pair] for pair in front.steps], [[(2, 1), (2, 2)], [(4, 3), (4, 3)]])

    def test_errors(self):
        for value in of_every_kind():
            self.fails(BadTask("task"), delay_front, value, value, value)
            self.fails(BadTask("task"), moment_front, value, value)
            self.fails(BadWait("wait"), delay_front, DIM, value, value)
            if value is True or type(value) is not int or value != 1:
                self.fails(BadNumbers("most"), delay_front, DIM, HOME, value)
                self.fails(BadNumbers("most"), moment_front, DIM, value)
        for number in (0, 201, True, -1):
            self.fails(BadNumbers("most"), delay_front, DIM, HOME, number)
            self.fails(BadNumbers("most"), moment_front, DIM, number)
        self.fails(TooMany("choices", 100000), delay_front, DIM, HOME, 200)
        # The greatest number of pages is asked first, though fewer hold already.
        self.fails(TooMany("choices", 100000), moment_front, DIM, 200)
        self.fails(TooMany("choices", 100000), moment_front, free_task(list("ab"), 16), 2)
        self.assertEqual(moment_front(free_task(list("ab"), 16), 1).points, ())
        self.fails(TooMany("depth", 60), moment_front, chain_task(61, True), 1)
        self.assertEqual(moment_front(chain_task(60, True), 1).points, ((1, 59),))
        self.fails(TooMany("depth", 60), delay_front, chain_task(61, False), Wait.again(["odd"]), 1)
        self.assertEqual(delay_front(chain_task(60, False), Wait.again(["odd"]), 1).points, ())
        self.assertEqual(delay_front(BY_TURNS, Wait.again(["r"]), 2).points, ((2, 1),))
