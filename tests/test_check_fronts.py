import itertools

from bending import bent
from common import Case, chances, of_every_kind, other_class, random_watch
from table_hands import small_task
from test_check_kept import kept_is_right
from test_check_patience import patience_is_right
from test_check_trees import fault_by_hand
from test_fronts import AAB, BLIND, STILL
from test_heights import DIM, HOME, ways_task
from test_keepers import free_task
from test_least import word_task
from test_moments import time_is_right
from test_sight_fronts import ONE, SOON, TOLD, TURNS, labels_task
from wait_hands import random_wait, waiting_task

from dimkeeper.blurs import Blur, blurs_of, is_finer
from dimkeeper.check_fronts import shows_delay_front, shows_moment_front, shows_promise_front, shows_sight_front
from dimkeeper.delay_fronts import DelayFront, delay_front
from dimkeeper.delays import Never, Patience, least_delay
from dimkeeper.errors import BadFront, BadNumbers, BadTask, BadWait, NoLabel, Twice, Unlike
from dimkeeper.keepers import Kept, first_kept
from dimkeeper.least import keep
from dimkeeper.moment_fronts import MomentFront, moment_front
from dimkeeper.moments import SureTime, sure_moments
from dimkeeper.promise_fronts import PromiseFront, joint, promise_front
from dimkeeper.promises import again, anything, never
from dimkeeper.refuse import Refusal, refusal
from dimkeeper.sight_fronts import SightFront, sight_front
from dimkeeper.tasks import Task, choices
from dimkeeper.waits import Wait
from dimkeeper.watches import Watch
from dimkeeper.worlds import World


def rises(numbers):
    return all(one < other for one, other in zip(numbers, numbers[1:]))


def are_points(points, most):
    return isinstance(points, tuple) and all(
        isinstance(pair, tuple) and len(pair) == 2 and type(pair[0]) is int and type(pair[1]) is int and 1 <= pair[0] <= most
        for pair in points) and rises([pages for pages, _ in points])


def steps_by_hand(points, steps, last, fine):
    if not isinstance(steps, tuple) or len(steps) != len(points):
        return False
    lasts = [pages - 1 for pages, _ in points[1:]] + [last]
    return all(isinstance(pair, tuple) and len(pair) == 2 and fine(point[0], pair[0], point[1]) and fine(end, pair[1], point[1])
               for point, end, pair in zip(points, lasts, steps))


def delay_front_is_right(task, wait, most, front):
    if not are_points(front.points, most) or not rises([-number for _, number in front.points]):
        return False

    def fine(k, paper, number):
        return type(paper) is Patience and patience_is_right(task, wait, k, paper) and paper.number == number

    if not steps_by_hand(front.points, front.steps, most, fine):
        return False
    ahead = front.points[0][0] - 1 if front.points else most
    if ahead == 0:
        return front.never is None
    return type(front.never) is Never and patience_is_right(task, wait, ahead, front.never)


def moment_front_is_right(task, most, front):
    if not are_points(front.points, most) or not rises([number for _, number in front.points]):
        return False
    last = most
    if front.kept is not None:
        if type(front.kept) is not Kept or not kept_is_right(task, *front.kept.parts) or front.kept.pages > most:
            return False
        last = front.kept.pages - 1
    if (front.points == ()) != (last == 0) or front.points and (front.points[0][0] != 1 or front.points[-1][0] > last):
        return False
    return steps_by_hand(front.points, front.steps, last,
                         lambda k, paper, number: type(paper) is SureTime and time_is_right(task, k, paper) and paper.number == number)


def rows_by_hand(all_of, first, second, below):
    """Whether all of them lie below one of the first row, or have one of the second below them."""
    if not all(any(below(one, other) for other in first) or any(below(other, one) for other in second) for one in all_of):
        return False
    return not any(below(one, other) for row in (first, second) for one, other in itertools.permutations(row, 2))


def papers_by_hand(rows, k, of, kind):
    if not isinstance(rows, tuple):
        return False
    for pair in rows:
        if not isinstance(pair, tuple) or len(pair) != 2 or type(pair[1]) is not kind:
            return False
        task = of(pair[0])
        if task is None:
            return False
        if kind is Kept and (not kept_is_right(task, *pair[1].parts) or pair[1].pages > k):
            return False
        if kind is Refusal and (pair[1].pages != k or type(pair[1].pages) is not int or fault_by_hand(task, k, pair[1].tree) is not None):
            return False
    return True


def sight_front_is_right(task, k, front):
    blurs = list(blurs_of(task.world.labels))

    def of(blur):
        return task.changed(blur=blur, standing=task.standing) if blur in blurs else None

    if not papers_by_hand(front.enough, k, of, Kept) or not papers_by_hand(front.short, k, of, Refusal):
        return False
    enough, short = [[blurs.index(blur) for blur, _ in row] for row in (front.enough, front.short)]
    return rises(enough) and rises(short) and rows_by_hand(range(len(blurs)), enough, short,
                                                           lambda one, other: is_finer(blurs[one], blurs[other]))


def promise_front_is_right(task, promises, k, front):
    names = [name for name, _ in promises]
    sets = sorted(row for many in range(1, len(names) + 1) for row in itertools.combinations(range(len(names)), many))
    told = [tuple(names[at] for at in row) for row in sets]

    def of(row):
        return joint(task, [promises[names.index(name)][1] for name in row]) if row in told else None

    if not papers_by_hand(front.held, k, of, Kept) or not papers_by_hand(front.short, k, of, Refusal):
        return False
    held, short = [[told.index(row) for row, _ in rows] for rows in (front.held, front.short)]
    return rises(held) and rises(short) and rows_by_hand(range(len(told)), held, short,
                                                         lambda one, other: set(sets[one]) <= set(sets[other]))


def bends(chance, paper, others):
    """Papers with one part bent."""
    for _ in range(8):
        parts = bent(chance, paper.parts, others)
        if len(parts) == len(paper.parts):
            yield type(paper)(*parts)


class CheckFronts(Case):

    def test_bent_delay_fronts(self):
        seen = {}
        for chance in chances(140):
            most = chance.choice([1, 2, 3])
            task = waiting_task(chance, most, 400, most_states=3, most_deeds=2, most_labels=2)
            wait = random_wait(chance, task)
            front = delay_front(task, wait, most)
            self.assertIs(shows_delay_front(task, wait, most, front), True)
            others = [least_delay(task, wait, k) for k in range(1, most + 1)] + [0, 1, 2, True, None, (), (1, 1), "odd"]
            for value in bends(chance, front, others):
                for number in (most, 1, 2):
                    fine = delay_front_is_right(task, wait, number, value)
                    self.assertIs(shows_delay_front(task, wait, number, value), fine, value.parts)
                    seen[fine, len(front.points)] = True
        self.assertTrue({(True, 1), (False, 0), (False, 1)} <= set(seen), seen)

    def test_delay_fronts_of_many_points(self):
        rows = [(f"s{at}", "e", [[f"s{min(at + 1, 3)}"], ["h" if at == 3 else "s0"]]) for at in range(4)]
        world = World(["a", "b"], rows + [("h", "h", [["s0"], ["s0"]])], ["s0"])
        task = Task(world, Blur.alike(["e", "h"]), anything(["e", "h"], ["a", "b"]))
        front = delay_front(task, HOME, 5)
        four, five = front.steps
        three = least_delay(task, HOME, 3)
        for points, no, steps, fine in [
                (front.points, front.never, front.steps, True), (front.points[:1], front.never, front.steps[:1], False),
                (front.points[1:], front.never, front.steps[1:], False), (front.points[::-1], front.never, front.steps[::-1], False),
                (front.points, None, front.steps, False), (front.points, least_delay(task, HOME, 2), front.steps, False),
                (front.points, three, [four, (five[0], four[0])], False), (front.points, three, [(four[0], five[0]), five], False),
                (front.points, three, [four[:1], five], False), (front.points, three, [four, five, five], False),
                (((4, 8), (5, 8)), three, front.steps, False), (((3, 8), (5, 5)), three, front.steps, False), ((), three, (), False),
                (((4, 8), (5, True)), three, front.steps, False), (((True, 8), (5, 5)), None, front.steps, False)]:
            value = DelayFront(points, no, steps)
            self.assertIs(shows_delay_front(task, HOME, 5, value), fine, (points, no))
        for points in (((4, 8), (4, 5)), ((5, 8), (4, 5)), ((1, 8), (1, 5)), ((4, 8), (5, 9))):
            self.assertIs(shows_delay_front(task, HOME, 5, DelayFront(points, three, front.steps)), False)
        # Both papers are right, but the delay is the same.
        told = [least_delay(DIM, HOME, k) for k in (1, 2, 3)]
        self.assertEqual([paper.number for paper in told], [3, 2, 2])
        pairs = [(paper, paper) for paper in told]
        self.assertIs(shows_delay_front(DIM, HOME, 3, DelayFront(((1, 3), (2, 2), (3, 2)), None, pairs)), False)
        self.assertIs(shows_delay_front(DIM, HOME, 3, DelayFront(((1, 3), (2, 2)), None, (pairs[0], (told[1], told[2])))), True)
        row = ways_task(12)
        told = [least_delay(row, HOME, k) for k in (1, 2)]
        for points, steps, fine in ((((1, 12), (2, 12)), [(paper, paper) for paper in told], False), (((1, 12),), [told], True)):
            self.assertIs(shows_delay_front(row, HOME, 2, DelayFront(points, None, steps)), fine)
        # A right Never is none of the papers of a point.
        self.assertIs(shows_delay_front(task, HOME, 3, DelayFront(((3, 8),), least_delay(task, HOME, 2), ((three, three),))), False)
        # For three pages there is no point, and the Never of three pages tells it.
        self.assertIs(shows_delay_front(task, HOME, 3, DelayFront((), three, ())), True)
        self.assertIs(shows_delay_front(task, HOME, 4, DelayFront(((4, 8),), three, (four,))), True)
        # Any right papers may stand in a front, not only those that are told.
        other = Patience(four[0].number, four[0].table, four[0].delay, five[0].tree)
        self.assertIs(shows_delay_front(task, HOME, 4, DelayFront(((4, 8),), three, ((four[0], other),))), False)

    def test_bent_moment_fronts(self):
        seen = {}
        for chance in chances(160):
            most = chance.choice([1, 2, 3])
            task = small_task(chance, most, 400, most_states=3, most_deeds=2, most_labels=2)
            if choices(task, most) > 400:
                continue
            front = moment_front(task, most)
            self.assertIs(shows_moment_front(task, most, front), True)
            others = [sure_moments(task, k) for k in range(1, most + 1)] + [0, 1, 2, True, None, (), (1, 1), "odd"]
            for value in bends(chance, front, others):
                for number in (most, 1, 2):
                    fine = moment_front_is_right(task, number, value)
                    self.assertIs(shows_moment_front(task, number, value), fine, value.parts)
                    seen[fine, len(front.points)] = True
        self.assertTrue({(True, 0), (True, 1), (False, 0), (False, 1)} <= set(seen), seen)

    def test_moment_fronts_of_many_points(self):
        task = word_task("aabb")
        front = moment_front(task, 4)
        one, two = front.steps
        wide = Kept(5, front.kept.entries, front.kept.triples)
        for points, steps, kept, most, fine in [
                (front.points, front.steps, front.kept, 4, True), (front.points, front.steps, front.kept, 5, True),
                (front.points, front.steps, front.kept, 3, False), (front.points, front.steps, None, 3, True),
                (front.points, front.steps, None, 4, False), (front.points[:1], front.steps[:1], None, 2, True),
                (front.points[:1], front.steps[:1], None, 3, False), (front.points, front.steps, wide, 5, False),
                (front.points, front.steps, wide, 4, False), (front.points[1:], front.steps[1:], front.kept, 4, False),
                ((), (), front.kept, 4, False), ((), (), None, 4, False), (front.points, (one, (two[0], one[0])), front.kept, 4, False),
                (front.points, (one, one), front.kept, 4, False), (((1, 2), (2, 4)), front.steps, front.kept, 4, False),
                (((1, 2), (4, 4)), front.steps, None, 4, False), (((1, 2), (3, 2)), front.steps, front.kept, 4, False)]:
            value = MomentFront(points, steps, kept)
            self.assertIs(shows_moment_front(task, most, value), fine, (points, most))
            self.assertIs(moment_front_is_right(task, most, value), fine)
        # Both papers are right, but the number is the same.
        sure = [sure_moments(task, k) for k in (1, 2, 3)]
        pairs = [(paper, paper) for paper in sure]
        self.assertEqual([paper.number for paper in sure], [2, 2, 4])
        self.assertIs(shows_moment_front(task, 4, MomentFront(((1, 2), (2, 2), (3, 4)), pairs, front.kept)), False)
        for points in (((1, 2), (1, 4)), ((3, 2), (1, 4)), ((2, 2), (1, 4))):
            self.assertIs(shows_moment_front(task, 4, MomentFront(points, front.steps, front.kept)), False)
        none = BLIND.changed(watch=never(BLIND.watch.labels, BLIND.watch.deeds, ["h"]))
        sure = [sure_moments(none, k) for k in (1, 2)]
        for points, steps, fine in ((((1, 0), (2, 0)), [(paper, paper) for paper in sure], False), (((1, 0),), [sure], True)):
            self.assertIs(shows_moment_front(none, 2, MomentFront(points, steps, None)), fine)
        easy = word_task("a")
        kept = first_kept(easy, 1)
        self.assertIs(shows_moment_front(easy, 2, MomentFront((), (), kept)), True)
        self.assertIs(shows_moment_front(easy, 2, MomentFront((), ((1, 1),), kept)), False)
        self.assertIs(shows_moment_front(easy, 2, MomentFront((), (), None)), False)
        self.assertIs(shows_moment_front(easy, 2, MomentFront((), (), Kept(2, kept.entries, kept.triples))), False)

    def test_bent_sight_fronts(self):
        seen = {}
        for chance in chances(120):
            task = small_task(chance, 2, 400, most_states=3, most_deeds=2, most_labels=3)
            k = chance.choice([1, 2])
            apart = task.changed(blur=Blur.apart(task.world.labels), standing=task.standing)
            if choices(apart, k) > 300:
                continue
            front = sight_front(task, k)
            self.assertIs(shows_sight_front(task, k, front), True)
            blurs = list(blurs_of(task.world.labels))
            papers = [keep(task.changed(blur=blur, standing=task.standing), k) for blur in blurs]
            others = blurs + papers + list(zip(blurs, papers)) + [1, True, None, (), "odd", Blur.alike(task.world.labels, "other")]
            for value in bends(chance, front, others):
                for number in (k, 1, 2):
                    fine = sight_front_is_right(task, number, value)
                    self.assertIs(shows_sight_front(task, number, value), fine, value.parts)
                    seen[fine, len(front.enough) > 0, len(front.short) > 0] = True
        self.assertTrue({(True, True, False), (False, True, True), (False, True, False), (False, False, True)} <= set(seen), seen)

    def test_rows_of_sight_fronts(self):
        world = World(["a", "b", "c"], [("p", "l", [["p"], ["p"], ["x"]]), ("q", "m", [["q"], ["x"], ["q"]]),
                                        ("r", "n", [["x"], ["r"], ["r"]]), ("x", "x", [["x"]] * 3)], ["p", "q", "r"])
        task = Task(world, Blur.apart(world.labels), never(world.labels, world.deeds, ["x"]))
        front = sight_front(task, 1)
        apart = Blur.apart(world.labels)
        more = (apart, keep(task.changed(blur=apart), 1))
        enough, short = front.enough, front.short
        dark = Blur({label: "l" for label in world.labels})
        less = (dark, keep(task.changed(blur=dark), 1))
        for first, second, fine in [(enough, short, True), (enough[::-1], short, False), (enough[1:], short, False), (enough, (), False),
                                    (enough + (more,), short, False), (enough, (less,) + short, False), (enough, (less,), False),
                                    ((more,), short, False), (enough[:1] * 2 + enough[1:], short, False), (enough, short * 2, False),
                                    (short, enough, False)]:
            value = SightFront(first, second)
            self.assertIs(shows_sight_front(task, 1, value), fine)
            self.assertIs(sight_front_is_right(task, 1, value), fine)
        # A Kept may have more pages than are used, but no more than k.
        easy = labels_task(2)
        blur, kept = sight_front(easy, 1).enough[0]
        wide = SightFront([(blur, Kept(2, kept.entries, kept.triples))], [])
        self.assertEqual([shows_sight_front(easy, k, wide) for k in (1, 2, 200)], [False, True, True])
        # A Refusal is of just k pages.
        short = SightFront([], [(Blur.alike(["r"], "r"), refusal(word_task("ab"), 1))])
        self.assertIs(shows_sight_front(word_task("ab"), 2, short), False)

    def test_bent_promise_fronts(self):
        seen = {}
        for chance in chances(120):
            k = chance.choice([1, 2])
            task = small_task(chance, k, 300, most_states=3, most_deeds=2, most_labels=2)
            if choices(task, k) > 200:
                continue
            labels, deeds = task.watch.labels, task.watch.deeds
            promises = [(name, random_watch(chance, labels, deeds, 2, 0.2)) for name in ["b", "a", "c"][:chance.randint(1, 3)]]
            front = promise_front(task, promises, k)
            self.assertIs(shows_promise_front(task, promises, k, front), True)
            names = [name for name, _ in promises]
            sets = [row for many in range(1, len(names) + 1) for row in itertools.combinations(names, many)]
            papers = [keep(joint(task, [dict(promises)[name] for name in row]), k) for row in sets]
            others = sets + papers + list(zip(sets, papers)) + [1, True, None, (), "odd", "a", ("a", "b"), ("a", "a")]
            for value in bends(chance, front, others):
                for number in (k, 1, 2):
                    fine = promise_front_is_right(task, promises, number, value)
                    self.assertIs(shows_promise_front(task, promises, number, value), fine, value.parts)
                    seen[fine, len(front.held) > 0, len(front.short) > 0] = True
        self.assertTrue({(True, True, False), (False, True, True), (False, True, False), (False, False, True)} <= set(seen), seen)

    def test_rows_of_promise_fronts(self):
        front = promise_front(ONE, TOLD, 1)
        both_sets = front.short + ((("turns", "no.b"), refusal(joint(ONE, [TURNS, TOLD[1][1]]), 1)),)
        for held, short, fine in [(front.held, front.short, True), (front.held[::-1], front.short, False), (front.held[:1], front.short, False),
                                  (front.held, front.short[:1], False), (front.held, both_sets, False), (front.held * 2, front.short, False),
                                  (front.short, front.held, False), ((), (), False)]:
            value = PromiseFront(held, short)
            self.assertIs(shows_promise_front(ONE, TOLD, 1, value), fine)
            self.assertIs(promise_front_is_right(ONE, TOLD, 1, value), fine)
        # The names in a set stand in the order in which they are told.
        swapped = front.short[:1] + ((front.short[1][0][::-1], front.short[1][1]),)
        self.assertIs(shows_promise_front(ONE, TOLD, 1, PromiseFront(front.held, swapped)), False)

    def test_too_many(self):
        # No value is right where the function of the paper would tell TooMany, and nothing is raised.
        front = sight_front(SOON, 1)
        self.assertIs(shows_sight_front(labels_task(6), 1, front), False)
        self.assertIs(shows_sight_front(labels_task(6), 1, SightFront([], [])), False)
        self.assertIs(shows_sight_front(labels_task(5), 1, sight_front(labels_task(5), 1)), True)
        odd = anything(["s"], ["a", "b"])
        five = [("n" + str(at), TURNS) for at in range(4)] + [("odd", odd)]
        for value in (PromiseFront([], []), promise_front(ONE, TOLD, 1), None):
            self.assertIs(shows_promise_front(ONE, five, 1, value), False)
            self.fails(Unlike("labels"), shows_promise_front, ONE, five[1:], 1, value)
        labels, deeds = ["l0", "l1", "l2"], ["a", "b"]
        wide = [("x", again(labels, deeds, ["l0"], 20)), ("y", again(labels, deeds, ["l1"], 20))]
        task = Task(World(deeds, [("s", "l0", [["s"], ["s"]])], ["s"]), Blur.apart(["l0"]), wide[0][1])
        for value in (PromiseFront([], []), PromiseFront([(("x",), first_kept(joint(task, [wide[0][1]]), 1))], [])):
            self.assertIs(shows_promise_front(task, wide, 1, value), False)
            # The joint of all has too many watch states ahead of the watch that does not fit.
            self.assertIs(shows_promise_front(task, wide + [("z", odd)], 1, value), False)
        self.fails(Unlike("labels"), shows_promise_front, task, [("z", odd)] + wide, 1, None)
        # The joint of all is small, but that of two of them is not.
        told = [("hopeless", never(labels, deeds, labels))] + wide
        few = joint(task, [watch for _, watch in told])
        self.assertEqual(len(few.watch), 1)
        value = PromiseFront([(("x", "y"), first_kept(joint(task, [wide[0][1]]), 1))], [(("hopeless",), refusal(joint(task, [told[0][1]]), 1))])
        self.assertIs(shows_promise_front(task, told, 1, value), False)
        value = PromiseFront([(("x",), first_kept(joint(task, [wide[0][1]]), 1))],
                             [(("hopeless",), refusal(joint(task, [told[0][1]]), 1)), (("x", "y"), refusal(joint(task, [told[0][1]]), 1))])
        self.assertIs(shows_promise_front(task, told, 1, value), False)
        # Where no set in value is too large, the front may be right.
        alone = PromiseFront([(("x",), first_kept(joint(task, [wide[0][1]]), 1))], [(("hopeless",), refusal(joint(task, [told[0][1]]), 1))])
        self.assertIs(shows_promise_front(task, told[:2], 1, alone), True)
        self.assertIs(shows_promise_front(task, told, 1, alone), False)
        # Choices are not asked.
        self.assertIs(shows_delay_front(DIM, HOME, 200, delay_front(BLIND, HOME, 2)), False)
        self.assertIs(shows_moment_front(free_task(list("ab"), 17), 200, MomentFront((), (), first_kept(free_task(["a", "b"], 1), 1))), False)
        easy = free_task(list("ab"), 17)
        entries = [(1, sight, "a", 1) for sight in easy.sights]
        kept = Kept(1, entries, [(state, 1, "w0") for state in easy.world])
        self.assertIs(shows_moment_front(easy, 200, MomentFront((), (), kept)), True)

    def test_any_value(self):
        fronts = [delay_front(BLIND, HOME, 2), moment_front(Task(STILL, Blur.alike(["r"]), AAB), 3), sight_front(SOON, 1), promise_front(ONE, TOLD, 1)]
        values = of_every_kind() + [other_class(type(front).__name__, **vars(front)) for front in fronts]
        values += [type("Below", (type(front),), {})(*front.parts) for front in fronts]
        for value in values:
            parts = [value]
            if not isinstance(value, dict) and not (isinstance(value, list) and any(isinstance(one, dict) for one in value)):
                parts += [DelayFront(value, value, value), MomentFront(value, value, value), SightFront(value, value), PromiseFront(value, value),
                          DelayFront([value], None, [value]), MomentFront([value], [value], None), SightFront([value], []), SightFront([], [(value, value)]),
                          PromiseFront([(value, value)], []), PromiseFront([], [value]), DelayFront([(1, 2)], None, [(value, value)]),
                          MomentFront([(1, value)], [(value, value)], value), DelayFront([(value, 1)], value, [(value, value)]),
                          SightFront([(fronts[2].enough[0][0], value)], fronts[2].short), PromiseFront([(("no.b",), value)], fronts[3].short)]
            for part in parts:
                self.assertIs(shows_delay_front(BLIND, HOME, 2, part), False)
                self.assertIs(shows_moment_front(Task(STILL, Blur.alike(["r"]), AAB), 3, part), False)
                self.assertIs(shows_sight_front(SOON, 1, part), False)
                self.assertIs(shows_promise_front(ONE, TOLD, 1, part), False)
        for front in fronts:
            self.assertEqual([shows_delay_front(BLIND, HOME, 2, front), shows_moment_front(Task(STILL, Blur.alike(["r"]), AAB), 3, front),
                              shows_sight_front(SOON, 1, front), shows_promise_front(ONE, TOLD, 1, front)], [front is one for one in fronts])

    def test_errors(self):
        for value in of_every_kind():
            self.fails(BadTask("task"), shows_delay_front, value, value, value, value)
            self.fails(BadTask("task"), shows_moment_front, value, value, value)
            self.fails(BadTask("task"), shows_sight_front, value, value, value)
            self.fails(BadTask("task"), shows_promise_front, value, value, value, value)
            self.fails(BadWait("wait"), shows_delay_front, DIM, value, value, value)
            self.fails(BadFront("promises"), shows_promise_front, ONE, value, value, value)
            self.fails(BadFront("promises"), shows_promise_front, ONE, TOLD + [value], value, value)
            if value is True or type(value) is not int or value != 1:
                self.fails(BadNumbers("most"), shows_delay_front, DIM, HOME, value, value)
                self.fails(BadNumbers("most"), shows_moment_front, DIM, value, value)
                self.fails(BadNumbers("k"), shows_sight_front, labels_task(6), value, value)
                self.fails(BadNumbers("k"), shows_promise_front, ONE, TOLD + TOLD, value, value)
        for number in (0, 201, True):
            self.fails(BadNumbers("most"), shows_delay_front, DIM, HOME, number, None)
            self.fails(BadNumbers("k"), shows_promise_front, ONE, TOLD, number, None)
        self.fails(Twice("turns"), shows_promise_front, ONE, TOLD + TOLD, 1, None)
        self.fails(NoLabel("r"), shows_promise_front, ONE, [("z", anything(["s"], ["a", "b"]))], 1, None)
        self.fails(Unlike("deeds"), shows_promise_front, ONE, [("z", anything(["r"], ["a", "c"]))], 1, None)
        self.assertIs(shows_sight_front(SOON, 200, None), False)
        self.assertIs(shows_delay_front(DIM, Wait.again(["h"]), 200, None), False)
        self.assertEqual(Watch(["r"], ["a"], [("w", [["w"]])]).first, "w")
