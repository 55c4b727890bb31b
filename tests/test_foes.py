import itertools

from common import Case, chances, of_every_kind, random_task
from test_views import CLEAR, DRIFT, ROOMS, next_by_hand, splits_by_hand

from dimkeeper.blurs import Blur
from dimkeeper.check_views import shows_lost
from dimkeeper.errors import BadPaper, BadTask, Ended, NoDeed, NotNow
from dimkeeper.foes import Foe
from dimkeeper.forced import Lost, judge
from dimkeeper.papers import Denial
from dimkeeper.promises import again
from dimkeeper.tasks import Task
from dimkeeper.watches import Watch
from dimkeeper.worlds import World


def ways_by_hand(task, sights, deeds):
    """All stands that show the sights and lead from one to the next, with a break at the last one alone."""
    found = [(stand,) for stand in task.standing]
    for at, deed in enumerate(deeds):
        found = [way for way in found if task.sight_of(way[-1][0]) == sights[at]]
        last = at == len(deeds) - 1
        found = [way for way in found if (task.place_of(way[-1], deed) == "broken") == last]
        if not last:
            found = [way + ((state, task.place_of(way[-1], deed)),) for way in found
                     for state in task.world.nexts(way[-1][0], deed)]
    return found


class Foes(Case):

    def test_example(self):
        foe = Foe(ROOMS, judge(ROOMS))
        self.assertEqual([foe.do("left"), foe.do("left"), foe.moment, foe.way()], ["x", None, 1, (("q", "w0"), ("x", "w0"))])

    def test_attributes(self):
        foe = Foe(ROOMS, judge(ROOMS))
        self.assertEqual((foe.sight, foe.moment, foe.log), ("u", 0, ("u",)))
        self.assertEqual(foe.do("right"), "x")
        self.assertEqual((foe.sight, foe.moment, foe.log), ("x", 1, ("u", "right", "x")))
        self.assertIsNone(foe.do("left"))
        self.assertEqual((foe.sight, foe.moment, foe.log), (None, 1, ("u", "right", "x", "left")))
        self.assertEqual(foe.way(), (("p", "w0"), ("x", "w0")))

    def test_errors_change_nothing(self):
        foe = Foe(ROOMS, judge(ROOMS))
        for value in of_every_kind() + ["up", "u"]:
            self.fails(NoDeed(value), foe.do, value)
            self.fails(NotNow("way"), foe.way)
            self.assertEqual((foe.sight, foe.moment, foe.log), ("u", 0, ("u",)))
        foe.do("left")
        self.fails(NoDeed("x"), foe.do, "x")
        self.fails(NotNow("way"), foe.way)
        foe.do("left")
        for value in of_every_kind() + ["left"]:
            self.fails(Ended(), foe.do, value)
            self.assertEqual((foe.sight, foe.moment, foe.log), (None, 1, ("u", "left", "x", "left")))
        self.assertEqual(foe.way(), foe.way())

    def test_broken_at_once(self):
        task = Task(DRIFT.begun("x", "p"), Blur.apart(DRIFT.labels), ROOMS.watch)
        foe = Foe(task, judge(task))
        self.assertEqual((foe.sight, foe.do("right"), foe.moment, foe.log, foe.way()),
                         ("x", None, 0, ("x", "right"), (("x", "w0"),)))

    def test_twin(self):
        foe = Foe(ROOMS, judge(ROOMS))
        foe.do("left")
        twin = foe.twin()
        self.assertEqual((twin.sight, twin.moment, twin.log), (foe.sight, foe.moment, foe.log))
        twin.do("right")
        self.assertEqual((foe.sight, foe.moment, foe.log), ("x", 1, ("u", "left", "x")))
        self.assertEqual((twin.sight, twin.log, twin.twin().way()), (None, ("u", "left", "x", "right"), twin.way()))
        self.fails(Ended(), twin.twin().do, "left")
        foe.do("left")
        self.assertEqual(foe.way(), (("q", "w0"), ("x", "w0")))

    def test_every_keeper_is_beaten(self):
        lost = 0
        for chance in chances(300):
            task = random_task(chance)
            paper = judge(task)
            if paper:
                continue
            lost += 1
            for deeds in itertools.islice(itertools.product(task.world.deeds, repeat=paper.number), 30):
                foe = Foe(task, paper)
                line = paper.ranked[0]
                for deed in deeds:
                    self.assertEqual(foe.sight, task.sight_of(line[0][0][0]))
                    reply = line[2][task.world.deeds.index(deed)]
                    told = foe.do(deed)
                    if told is None:
                        self.assertIsInstance(reply, tuple)
                        break
                    self.assertEqual(told, reply)
                    view = dict(splits_by_hand(task, next_by_hand(task, line[0], deed)))[reply]
                    line = next(one for one in paper.ranked if one[1] < line[1] and set(one[0]) <= set(view))
                self.assertIsNone(foe.sight)
                self.assertLess(foe.moment, paper.number)
                sights, done = foe.log[::2], foe.log[1::2]
                self.assertEqual((len(sights), len(done)), (foe.moment + 1, foe.moment + 1))
                order = [(state, kept) for state in task.world for kept in task.watch]
                ways = ways_by_hand(task, sights, done)
                self.assertEqual(foe.way(), min(ways, key=lambda way: [order.index(stand) for stand in way]))
        self.assertGreater(lost, 60)

    def test_a_lost_that_is_told_otherwise(self):
        # Lines need not be the ones that judge tells: here the first line is a part of the beginning.
        world = World.read("a ; s l t l u m v m ; s t ; u v / u / u / v")
        task = Task(world, Blur.apart(["l", "m"]), Watch.read("l m ; a ; w ; w , broken"))
        paper = Lost(2, [((("t", "w"),), 2, ("m",)), ((("u", "w"),), 1, (("u", "w"),))],
                     [((("s", "w"), ("t", "w")), 1, "a")])
        self.assertTrue(shows_lost(task, paper))
        foe = Foe(task, paper)
        self.assertEqual([foe.sight, foe.do("a"), foe.do("a"), foe.way()], ["l", "m", None, (("s", "w"), ("u", "w"))])

    def test_the_first_line_of_lesser_rank_within_the_split(self):
        world = World.read("a b ; s l u m v k y y z n ; s ; u v , y / z , z / v , v / z , z / z , z")
        blur = Blur({"l": "l", "m": "mk", "k": "mk", "y": "y", "n": "n"})
        watch = Watch(["l", "m", "k", "y", "n"], ["a", "b"], [("w", [["broken" if label in "kn" else "w"] * 2 for label in "lmkyn"])])
        task = Task(world, blur, watch)
        s, u, v, y, z = [(state, "w") for state in "suvyz"]
        lines = {"s": ([s], 3, ["mk", "y"]), "z": ([z], 1, [z, z]), "u": ([u], 2, ["n", "n"]), "v": ([v], 1, [v, v]),
                 "y": ([y], 2, ["n", "n"])}
        kept = [([s], 2, "b"), ([y], 1, "a")]
        for order, told in [("szuvy", ["l", "mk", "n", None]), ("szvuy", ["l", "mk", None]), ("syzuv", ["l", "mk", "n", None])]:
            paper = Lost(3, [lines[name] for name in order], kept)
            self.assertTrue(shows_lost(task, paper))
            foe = Foe(task, paper)
            shown = [foe.sight]
            while foe.sight is not None:
                shown.append(foe.do("a"))
            self.assertEqual(shown, told)
            # From v the promise would be broken ahead of the last moment.
            self.assertEqual(foe.way(), (s, u, z) if len(told) == 4 else (s, v))

    def test_lines_of_lesser_rank(self):
        still = World.read("a b ; o r ; o ; o , o")
        task = Task(still, Blur.alike(["r"]), again(["r", "s"], ["a", "b"], ["s"], 4))
        foe = Foe(task, judge(task))
        self.assertEqual([foe.do(deed) for deed in "abba"], ["dark", "dark", "dark", None])
        self.assertEqual(foe.way(), (("o", "w0"), ("o", "w1"), ("o", "w2"), ("o", "w3")))

    def test_errors(self):
        lost = judge(ROOMS)
        for value in of_every_kind() + [judge(CLEAR), Denial("lost", *lost.parts), Lost(2, lost.ranked, ()), lost.parts]:
            self.fails(BadPaper("lost"), Foe, ROOMS, value)
            if not isinstance(value, Task):
                self.fails(BadTask("task"), Foe, value, value)
        self.fails(BadPaper("lost"), Foe, CLEAR, lost)
