from bending import bent
from common import Case, chances, of_every_kind, other_class, random_task
from table_hands import cells_of, ends_by_hand, form_by_hand, lacking_by_hand, random_table
from test_check_trees import made, told
from test_delays import wait_tree_fault
from test_heights import DIM, HOME, SLOW
from test_moments import ALIKE, time_is_right
from test_plays import FLAT, TASK
from wait_hands import delay_is_right, random_wait, ring_by_hand, waiting_task

from dimkeeper.blurs import Blur
from dimkeeper.check_patience import shows_delay, shows_patience, shows_time
from dimkeeper.delays import Never, Patience, least_delay
from dimkeeper.errors import BadNumbers, BadTable, BadTask, BadWait, NoEntry, Unlike
from dimkeeper.heights import Delay, Ring, delay
from dimkeeper.moments import SureTime, sure_moments
from dimkeeper.promises import anything, never
from dimkeeper.tables import Table
from dimkeeper.tasks import Task, choices
from dimkeeper.trees import Leaf, Need, Tree
from dimkeeper.waits import Wait
from dimkeeper.worlds import World

BY_HAND = Need(1, "dark", ((Leaf("w0", ("h0", "e1", "e2")),), (Leaf("w0", ("h0", "e2", "e3")),)))
FLAT_ONE = Table(1, [(1, "dark", "b", 1)])


def paper_is_right(task, cells, wait, paper):
    if isinstance(paper, Delay):
        return delay_is_right(task, cells, wait, paper)
    return isinstance(paper, Ring) and ring_by_hand(task, cells, wait, paper.play, paper.at)


def table_is_right(task, k, rows):
    """Whether these are the sorted entries of a table of at most k pages, in one form, that holds."""
    try:
        table = Table(k, rows)
    except (ValueError, TypeError):
        return False
    cells = cells_of(table)
    if any(row[2] not in task.world.deeds for row in table.entries) or table.entries != rows:
        return False
    return ends_by_hand(task, cells) == (None, None) and tuple(sorted(form_by_hand(task, cells))) == rows


def patience_is_right(task, wait, k, paper):
    if isinstance(paper, Never):
        return isinstance(paper.tree, Tree) and wait_tree_fault(task, wait, k, paper.tree, None) is None
    if type(paper.number) is not int or not table_is_right(task, k, paper.table) or not isinstance(paper.delay, Delay):
        return False
    cells = {row[:2]: row[2:] for row in paper.table}
    if not delay_is_right(task, cells, wait, paper.delay) or paper.delay.number != paper.number:
        return False
    if paper.number == 0:
        return paper.tree is None
    return isinstance(paper.tree, Tree) and wait_tree_fault(task, wait, k, paper.tree, paper.number - 1) is None


class CheckPatience(Case):

    def test_example(self):
        found = least_delay(DIM, HOME, 2)
        self.assertEqual([shows_patience(DIM, HOME, 1, Patience(3, ((1, "dark", "b", 1),), SLOW, BY_HAND)),
                          shows_patience(DIM, HOME, 1, found), shows_time(ALIKE, 1, sure_moments(ALIKE, 1))], [True, False, True])
        self.assertIs(shows_patience(DIM, HOME, 2, found), True)

    def test_bent_delays(self):
        seen = {}
        for chance in chances(300):
            task = waiting_task(chance, 1, 10 ** 6)
            table, wait = random_table(chance, task, 3, 0.02), random_wait(chance, task)
            cells = cells_of(table)
            if lacking_by_hand(task, cells) is not None:
                continue
            paper = delay(task, table, wait)
            self.assertIs(shows_delay(task, table, wait, paper), True)
            others = list(task.world.states) + [0, 1, 2, True, None, (), ("s0", 1, 2), ("s0",), "odd", Leaf("w", ["o"])]
            for _ in range(12):
                parts = bent(chance, paper.parts, others)
                while len(parts) != len(paper.parts):
                    parts = bent(chance, paper.parts, others)
                value = Delay(*parts) if isinstance(paper, Delay) else Ring(*parts)
                is_right = paper_is_right(task, cells, wait, value)
                self.assertIs(shows_delay(task, table, wait, value), is_right, (str(task.world), str(table), value.parts))
                seen[value.word, is_right] = True
        self.assertEqual(len(seen), 4, seen)

    def test_other_rings(self):
        # The spot may be come to ahead of the moment that asks, and an answer may stand ahead of the ring.
        world = World(["d"], [("s", "h", [["t"]]), ("t", "q", [["u"]]), ("u", "e", [["t"]])], ["s"])
        task = Task(world, Blur.alike(["h", "q", "e"]), anything(["h", "q", "e"], ["d"]))
        table, wait = Table(1, [(1, "dark", "d", 1)]), Wait(["q"], ["h"])
        for play, at, is_right in [("sutu", 1, False), ("stutu", 2, True), ("stut", 1, True), ("stutut", 3, True), ("stu", 1, False),
                                   ("stutu", 4, False), ("stutu", 3, False), ("stutu", -3, False), ("stutu", True, False),
                                   ("tut", 0, False), ("stutut", 1, True), ("", 0, False), ("s", 0, False)]:
            self.assertIs(shows_delay(task, table, wait, Ring(list(play), at)), is_right, (play, at))
        late = Wait(["e"], ["h"])
        self.assertIs(shows_delay(task, table, late, Ring(list("stut"), 1)), True)
        self.assertIs(shows_delay(task, table, Wait(["h"], ["h"]), Ring(list("stut"), 1)), False)
        self.assertIs(shows_delay(task, table, Wait(["h"], ["q"]), Ring(list("stut"), 1)), False)
        self.assertIs(shows_delay(task, table, wait, Ring(list("stutu"), 2)), True)
        # An answer on the way round, and a question behind it.
        loop = Task(World(["d"], [("s", "a", [["t"]]), ("t", "b", [["s"]])], ["s"]), Blur.alike(["a", "b"]), anything(["a", "b"], ["d"]))
        for play, at in (("stst", 1), ("ststst", 1), ("ststst", 3), ("sts", 0)):
            self.assertIs(shows_delay(loop, table, Wait(["b"], ["a"]), Ring(list(play), at)), False)
        # A plain loop that is come to ahead of the question, too: no answer from there on.
        turn = Task(World(["d"], [("s", "a", [["t"]]), ("t", "b", [["s"]])], ["s"]), Blur.alike(["a", "b"]),
                    anything(["a", "b"], ["d"]))
        self.assertIs(shows_delay(turn, table, Wait(["b"], ["odd"]), Ring(list("sts"), 0)), True)
        self.assertIs(shows_delay(turn, table, Wait(["b"], ["a"]), Ring(list("sts"), 0)), False)

    def test_other_plays(self):
        for play, is_right in [(("h0", "e2", "e3", "h0"), False), (("h0", "e2", "e3"), False), (("e2", "e3", "h0"), False),
                               (("h0", "e2", "e3", "h0", "e2", "e3", "h0"), True), ((), False)]:
            paper = Delay(SLOW.number, SLOW.heights, play)
            # Of e2 up to h0 these are the last three: what is ahead may be any beginning.
            fine = is_right or play == SLOW.play
            self.assertIs(shows_delay(DIM, FLAT_ONE, HOME, paper), fine, play)
        for number in (2, 4, 3.0, "3", None):
            self.assertIs(shows_delay(DIM, FLAT_ONE, HOME, Delay(number, SLOW.heights, SLOW.play)), False)
        for heights in (SLOW.heights[::-1], SLOW.heights[:2], SLOW.heights + SLOW.heights[:1], (),
                        (("h0", True, 1),) + SLOW.heights[1:], (("h0", 1, True),) + SLOW.heights[1:], None, 5):
            self.assertIs(shows_delay(DIM, FLAT_ONE, HOME, Delay(3, heights, SLOW.play)), False)

    def test_bent_papers_of_patience(self):
        seen = {}
        for chance in chances(260):
            k = chance.choice([1, 2, 2])
            task = waiting_task(chance, k, 600, most_states=3, most_deeds=2, most_labels=2)
            wait = random_wait(chance, task)
            paper = least_delay(task, wait, k)
            for _ in range(8):
                value = self.bent_paper(chance, task, paper)
                if value is None:
                    continue
                other_k = chance.choice([k, k, k, 1, 2])
                is_right = patience_is_right(task, wait, other_k, value)
                self.assertIs(shows_patience(task, wait, other_k, value), is_right, (str(task.world), value.parts))
                seen[value.word, is_right] = seen.get((value.word, is_right), 0) + 1
        self.assertEqual(len(seen), 4, seen)

    def bent_paper(self, chance, task, paper):
        """A paper with a part bent, or None if no paper can be made so."""
        others = list(task.world.states) + [1, 2, 3, True, None, (), "odd", (1, "l0", "d0", 1), ("s0",)]
        how = chance.randint(0, 2)
        if isinstance(paper, Never) or how == 0 and paper.tree is not None:
            tree = made(bent(chance, told(paper.tree), others))
            if tree is None:
                return None
            return Never(tree) if isinstance(paper, Never) else Patience(paper.number, paper.table, paper.delay, tree)
        if how == 1:
            parts = bent(chance, paper.delay.parts, others)
            return Patience(paper.number, paper.table, Delay(*parts), paper.tree) if len(parts) == 3 else None
        if chance.random() < 0.5:
            return Patience(paper.number, bent(chance, (paper.table,), others)[:1][0] if paper.table else (), paper.delay, paper.tree)
        return Patience(chance.choice([paper.number + 1, paper.number - 1, True, None, paper.number]), paper.table, paper.delay,
                        paper.tree)

    def test_tables_of_patience(self):
        found = least_delay(DIM, HOME, 2)
        first, second = found.table
        for rows, is_right in [((first, second), True), ((second, first), False), ((first,), False), ((), False), (None, False),
                               ((first, second, (2, "odd", "a", 1)), False), (((1, "dark", "a", 2), (2, "dark", "c", 1)), False),
                               (((1, "dark", "b", 2), (2, "dark", "a", 1)), False), ((first, second, second), False)]:
            self.assertIs(shows_patience(DIM, HOME, 2, Patience(2, rows, found.delay, found.tree)), is_right, rows)
        wide = tuple(sorted([(1, "dark", "a", 3), (3, "dark", "b", 1)]))
        paper = delay(DIM, Table(3, wide), HOME)
        self.assertIs(shows_patience(DIM, HOME, 3, Patience(2, wide, paper, least_delay(DIM, HOME, 3).tree)), False)
        for tree in (None, Leaf("w0", ["h0"]), found.delay, "tree", BY_HAND):
            self.assertIs(shows_patience(DIM, HOME, 2, Patience(2, found.table, found.delay, tree)), False)
        none = least_delay(DIM, Wait(["odd"], ["h"]), 1)
        self.assertIs(shows_patience(DIM, Wait(["odd"], ["h"]), 1, none), True)
        self.assertIs(shows_patience(DIM, Wait(["odd"], ["h"]), 1, Patience(0, none.table, none.delay, BY_HAND)), False)

    def test_plays_that_do_not_ask(self):
        world = World(["d"], [("s", "n", [["t"]]), ("t", "n", [["h"]]), ("q", "q", [["t"]]), ("h", "h", [["h"]])], ["s", "q"])
        task = Task(world, Blur.alike(["n", "q", "h"]), anything(["n", "q", "h"], ["d"]))
        table, wait = Table(1, [(1, "dark", "d", 1)]), Wait(["q"], ["h"])
        told = delay(task, table, wait)
        self.assertEqual((told.number, told.play), (3, ("q", "t", "h")))
        self.assertIs(shows_delay(task, table, wait, Delay(3, told.heights, ("s", "t", "h"))), False)
        # A leaf that is late needs a moment that asks, and no answer from it on.
        for states, number, fine in [(("q", "t"), 3, True), (("s", "t"), 3, False), (("q", "t", "h"), 3, True), (("q",), 3, False)]:
            tree = Need(1, "dark", ((Leaf("w0", states),),))
            self.assertIs(shows_patience(task, wait, 1, Patience(number, table.entries, told, tree)), fine, states)
            self.assertEqual(wait_tree_fault(task, wait, 1, tree, number - 1) is None, fine)
        again = World(["d"], [("q", "q", [["t"]]), ("t", "h", [["q", "u"]]), ("u", "q", [["v"]]), ("v", "n", [["h"]]), ("h", "h", [["h"]])], ["q"])
        task = Task(again, Blur.alike(["n", "q", "h"]), anything(["n", "q", "h"], ["d"]))
        told = delay(task, table, wait)
        for states, fine in [(("q", "t", "u", "v"), True), (("q", "t", "q", "t"), False), (("q", "t", "u"), False)]:
            value = Patience(3, table.entries, told, Need(1, "dark", ((Leaf("w0", states),),)))
            self.assertIs(shows_patience(task, wait, 1, value), fine, states)

    def test_rings_as_leaves(self):
        world = World(["d"], [("s", "a", [["t"]]), ("t", "b", [["s"]])], ["s"])
        task = Task(world, Blur.alike(["a", "b"]), anything(["a", "b"], ["d"]))
        for wait, states, fine in [(Wait(["b"], ["odd"]), "sts", True), (Wait(["b"], ["odd"]), "st", False), (Wait(["b"], ["a"]), "stst", False),
                                   (Wait(["b"], ["a"]), "sts", False), (Wait(["odd"], ["odd"]), "sts", False), (Wait(["a"], ["b"]), "sts", False),
                                   (Wait(["b"], ["odd"]), "ststst", True), (Wait(["a"], ["odd"]), "tst", False)]:
            tree = Need(1, "dark", ((Leaf("w0", list(states)),),))
            self.assertIs(shows_patience(task, wait, 1, Never(tree)), fine, (str(wait), states))
            self.assertEqual(wait_tree_fault(task, wait, 1, tree, None) is None, fine)

    def test_cells_that_are_not_needed(self):
        # Questions whose answers no leaf goes by do no harm, ahead of and behind the others.
        blur = Blur({"h": "dark", "e": "dark", "odd": "idle"})
        task, found = DIM.changed(blur=blur), least_delay(DIM, HOME, 1)
        for tree, fine in [(Need(1, "idle", [[found.tree], [found.tree]]), True), (Need(1, "idle", [[found.tree]]), False),
                           (Need(1, "lost", [[found.tree], [found.tree]]), False), (Need(2, "idle", [[found.tree], [found.tree]]), False),
                           (Need(1, "dark", [[Need(1, "idle", [[part], [part]]) for part in row] for row in found.tree.parts]), True)]:
            value = Patience(found.number, found.table, found.delay, tree)
            self.assertIs(shows_patience(task, HOME, 1, value), fine)
            self.assertEqual(wait_tree_fault(task, HOME, 1, tree, found.number - 1) is None, fine)
        endless = least_delay(DIM, Wait.again(["odd"]), 1).tree
        self.assertIs(shows_patience(task, Wait.again(["odd"]), 1, Never(Need(1, "idle", [[endless], [endless]]))), True)
        self.assertIs(shows_patience(DIM, Wait.again(["odd"]), 1, Never(Need(1, "idle", [[endless], [endless]]))), False)

    def test_nothing_is_sure(self):
        none = DIM.changed(watch=never(DIM.watch.labels, DIM.watch.deeds, ["h"]))
        paper = sure_moments(none, 2)
        self.assertEqual((paper.number, paper.table), (0, ()))
        self.assertIs(shows_time(none, 2, paper), True)
        self.assertIs(shows_time(none, 2, SureTime(0, ((1, "dark", "a", 1),), paper.tree)), False)
        self.assertIs(shows_time(none, 2, SureTime(1, ((1, "dark", "a", 1),), paper.tree)), False)
        self.assertIs(shows_time(none, 2, SureTime(False, (), paper.tree)), False)
        wait = Wait(["odd"], ["h"])
        self.assertIs(shows_delay(DIM, FLAT_ONE, wait, Delay(0, (), ())), True)
        self.assertIs(shows_delay(DIM, FLAT_ONE, wait, Delay(False, (), ())), False)
        self.assertIs(shows_delay(DIM, FLAT_ONE, wait, Delay(0, (), ("h0",))), False)
        self.assertIs(shows_patience(DIM, wait, 1, Patience(0, FLAT_ONE.entries, Delay(0, (), ()), None)), True)
        self.assertIs(shows_patience(DIM, wait, 1, Patience(False, FLAT_ONE.entries, Delay(0, (), ()), None)), False)

    def test_late_leaves(self):
        # Late for 2: a moment that asks and the one behind it without an answer, at any place of the play.
        asked = Wait(["e"], ["h"])
        for states, number, is_right in [(("h0", "e2", "e3"), 3, True), (("h0", "e2"), 3, False), (("h0", "e2"), 2, True),
                                         (("h0", "e2", "e3", "h0"), 3, True), (("h0", "e2", "e3", "h0", "e2"), 3, True), (("h0",), 1, False),
                                         (("h0", "e2"), 1, True), (("e2", "e3"), 3, False), (("h0", "e3"), 2, False)]:
            tree = Need(1, "dark", ((Leaf("w0", states), ), (Leaf("w0", states),)))
            task = DIM.changed(world=World(["a", "b"], [(state, DIM.world.label_of(state), [DIM.world.nexts(state, "b")] * 2)
                                                        for state in DIM.world], ["h0"]))
            one = delay(task, FLAT_ONE, asked)
            value = Patience(one.number, ((1, "dark", "b", 1),), one, tree)
            self.assertEqual(one.number, 3)
            many = wait_tree_fault(task, asked, 1, tree, number - 1) is None
            self.assertIs(many, is_right, (states, number))
            if number == 3:
                self.assertIs(shows_patience(task, asked, 1, value), is_right, states)

    def test_bent_times(self):
        seen = {}
        for chance in chances(400):
            k = chance.choice([1, 2, 2])
            task = random_task(chance, most_states=3, most_deeds=2, most_labels=2)
            if choices(task, k) > 300:
                continue
            paper = sure_moments(task, k)
            if paper.word == "kept":
                self.assertIs(shows_time(task, k, paper), False)
                continue
            self.assertIs(shows_time(task, k, paper), True)
            others = list(task.world.states) + [1, 2, True, None, (), "odd", (1, "l0", "d0", 1), (2, "odd", "d0", 1), ("s0",)]
            for _ in range(6):
                how, value = chance.randint(0, 2), None
                if how == 0:
                    tree = made(bent(chance, told(paper.tree), others))
                    value = tree and SureTime(paper.number, paper.table, tree)
                elif how == 1:
                    value = SureTime(paper.number, bent(chance, (paper.table,), others)[0] if paper.table else ((1, "l0", "d0", 1),),
                                     paper.tree)
                else:
                    value = SureTime(chance.choice([paper.number + 1, paper.number - 1, True, None]), paper.table, paper.tree)
                if value is None:
                    continue
                is_right = time_is_right(task, k, value)
                self.assertIs(shows_time(task, k, value), is_right, (str(task.world), value.parts))
                seen[how, is_right] = True
        self.assertTrue({(0, True), (0, False), (1, True), (1, False), (2, False)} <= set(seen), seen)

    def test_tables_of_times(self):
        paper = sure_moments(ALIKE, 1)
        for rows, is_right in [(paper.table, True), (((1, "odd", "left", 1),) + paper.table, True), ((), False),
                               (paper.table + paper.table, False), (paper.table + ((2, "lr", "left", 1),), False),
                               (paper.table + ((1, "odd", "away", 1),), False), (((1, "odd", "left", 1),), False), (None, False)]:
            self.assertIs(shows_time(ALIKE, 1, SureTime(1, rows, paper.tree)), is_right, rows)
        self.assertIs(shows_time(ALIKE, 2, SureTime(1, paper.table + ((2, "lr", "left", 1),), sure_moments(ALIKE, 2).tree)), True)
        self.assertIs(shows_time(ALIKE, 2, paper), False)
        self.assertIs(shows_time(ALIKE, 1, SureTime(0, (), paper.tree)), False)
        for tree in (None, "tree", Leaf("w0", ["l0"]), paper):
            self.assertIs(shows_time(ALIKE, 1, SureTime(1, paper.table, tree)), False)

    def test_any_value(self):
        papers = [SLOW, Ring(["h0"], 0), least_delay(DIM, HOME, 1), least_delay(DIM, Wait.again(["odd"]), 1), sure_moments(ALIKE, 1)]
        values = of_every_kind() + [other_class(type(paper).__name__, **vars(paper)) for paper in papers]
        for value in values:
            self.assertIs(shows_delay(DIM, FLAT_ONE, HOME, value), False)
            self.assertIs(shows_patience(DIM, HOME, 1, value), False)
            self.assertIs(shows_time(ALIKE, 1, value), False)
            for kind in (Delay, Ring, Patience, Never, SureTime):
                if isinstance(value, (dict, set)) or value == [{"a": "a"}]:
                    continue
                parts = [value] * (len(papers[0].parts) if kind in (Delay, SureTime) else {Ring: 2, Patience: 4, Never: 1}[kind])
                if any(isinstance(part, dict) for part in parts):
                    continue
                paper = kind(*parts)
                self.assertIs(shows_delay(DIM, FLAT_ONE, HOME, paper), False)
                self.assertIs(shows_patience(DIM, HOME, 1, paper), False)
                self.assertIs(shows_time(ALIKE, 1, paper), False)

        class Below(Delay):
            pass

        for kind, paper in ((Ring, delay(DIM, Table(1, [(1, "dark", "a", 1)]), Wait(["h"], ["x"]))), (Patience, papers[2]), (Never, papers[3]),
                            (SureTime, papers[4])):
            told = type("Below", (kind,), {})(*paper.parts)
            self.assertIs(shows_delay(DIM, Table(1, [(1, "dark", "a", 1)]), Wait(["h"], ["x"]), told), False)
            self.assertIs(shows_patience(DIM, HOME, 1, told), False)
            self.assertIs(shows_patience(DIM, Wait.again(["odd"]), 1, told), False)
            self.assertIs(shows_time(ALIKE, 1, told), False)
        # The Delay in a Patience is no Ring, though this one is right; a table that holds keeps all moments.
        endless = Wait(["h"], ["x"])
        ring = delay(DIM, FLAT_ONE, endless)
        self.assertIs(shows_delay(DIM, FLAT_ONE, endless, ring), True)
        self.assertIs(shows_patience(DIM, endless, 1, Patience(3, FLAT_ONE.entries, ring, BY_HAND)), False)
        self.assertIs(shows_time(DIM, 1, SureTime(3, FLAT_ONE.entries, BY_HAND)), False)
        below = Below(*SLOW.parts)
        self.assertIs(shows_delay(DIM, FLAT_ONE, HOME, below), False)
        self.assertIs(shows_patience(DIM, HOME, 1, Patience(3, ((1, "dark", "b", 1),), below, BY_HAND)), False)
        # Papers of other tables, waits and pages.
        self.assertIs(shows_delay(DIM, FLAT_ONE, Wait(["e"], ["h"]), SLOW), True)
        self.assertIs(shows_delay(DIM, FLAT_ONE, Wait(["h"], ["h"]), SLOW), False)
        self.assertIs(shows_delay(DIM, Table(1, [(1, "dark", "a", 1)]), HOME, SLOW), False)
        self.assertIs(shows_patience(DIM, Wait.again(["e"]), 1, papers[2]), False)

    def test_errors(self):
        odd, lacks = Table(2, [(1, "dark", "b", 2), (2, "odd", "c", 1)]), Table(2, [(1, "dark", "b", 2)])
        for value in of_every_kind():
            self.fails(BadTask("task"), shows_delay, value, value, value, value)
            self.fails(BadTask("task"), shows_patience, value, value, value, value)
            self.fails(BadTask("task"), shows_time, value, value, value)
            self.fails(BadTable("table"), shows_delay, DIM, value, value, value)
            self.fails(BadWait("wait"), shows_delay, DIM, odd, value, value)
            self.fails(BadWait("wait"), shows_patience, DIM, value, value, value)
            self.fails(Unlike("deeds"), shows_delay, DIM, odd, HOME, value)
            self.fails(NoEntry(2, "dark"), shows_delay, DIM, lacks, HOME, value)
            if value is True or type(value) is not int or value != 1:
                self.fails(BadNumbers("k"), shows_patience, DIM, HOME, value, value)
                self.fails(BadNumbers("k"), shows_time, DIM, value, value)
        for number in (0, 201, True):
            self.fails(BadNumbers("k"), shows_patience, DIM, HOME, number, None)
            self.fails(BadNumbers("k"), shows_time, DIM, number, None)
        # They try no tables, so nothing is too many.
        self.assertIs(shows_patience(DIM, HOME, 200, None), False)
        self.assertIs(shows_time(TASK, 200, least_delay(DIM, HOME, 1)), False)
        self.assertIs(shows_time(TASK, 1, sure_moments(TASK, 1)), True)
        self.assertIs(shows_patience(TASK, Wait.again(["r"]), 200, Patience(1, FLAT.entries, None, None)), False)
