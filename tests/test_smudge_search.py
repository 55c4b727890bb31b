from bending import bent
from common import Case, chances, of_every_kind, other_class, random_task
from smudge_hands import (cases_by_hand, lines_are_right, random_smudges, slips_by_hand, some_stays, stays_by_hand)
from table_hands import cells_of, chosen, how_many, random_table, small_task
from test_keepers import free_task
from test_refuse import chain_task
from test_smudges import COIN_ONCE, PAIR

from dimkeeper.blurs import Blur
from dimkeeper.check_smudged import shows_firm, shows_stays
from dimkeeper.errors import BadNumbers, BadSmudges, BadTable, BadTask, TooMany, Unlike
from dimkeeper.keepers import first_kept
from dimkeeper.papers import Denial, Paper
from dimkeeper.promises import never
from dimkeeper.smudge_search import Firm, Steady, Unfirm, keep_smudged, least_smudged
from dimkeeper.smudges import Slips, Smudges, Stays, holds_smudged
from dimkeeper.tables import Table
from dimkeeper.tasks import Task
from dimkeeper.watches import Watch
from dimkeeper.worlds import World


def firm_is_right(task, smudges, paper):
    try:
        table = Table(paper.pages, paper.entries)
    except ValueError:
        return False
    if any(row[2] not in task.world.deeds for row in table.entries):
        return False
    return stays_by_hand(task, cells_of(table), table.pages, smudges, paper.cases)


def unfirm_is_right(task, smudges, paper):
    if type(paper.pages) is not int or not 1 <= paper.pages <= 200:
        return False
    return lines_are_right(task, paper.pages, smudges, paper.lines)


def is_right(task, smudges, paper):
    if isinstance(paper, Firm):
        return firm_is_right(task, smudges, paper)
    if isinstance(paper, Unfirm):
        return unfirm_is_right(task, smudges, paper)
    if not isinstance(paper, Steady) or type(paper.number) is not int or not isinstance(paper.firm, Firm):
        return False
    if paper.firm.pages != paper.number or not firm_is_right(task, smudges, paper.firm):
        return False
    if paper.number == 1:
        return paper.unfirm is None
    return (isinstance(paper.unfirm, Unfirm) and paper.unfirm.pages == paper.number - 1
            and unfirm_is_right(task, smudges, paper.unfirm))


class SmudgeSearch(Case):

    def test_example(self):
        self.assertEqual([least_smudged(COIN_ONCE, Smudges(1), 2).number, holds_smudged(COIN_ONCE, PAIR, Smudges(2)).word], [2, "slips"])

    def test_papers(self):
        firm = Firm(1, [[1, "r", "a", 1]], [["o", 1, "x", 0]])
        self.assertEqual((firm.word, firm.parts, bool(firm), isinstance(firm, Denial), isinstance(firm, Paper)),
                         ("firm", (1, ((1, "r", "a", 1),), (("o", 1, "x", 0),)), True, False, True))
        self.assertEqual((firm.pages, firm.entries, firm.cases), firm.parts)
        self.assertEqual(Firm(cases=(("o", 1, "x", 0),), pages=1, entries=((1, "r", "a", 1),)), firm)
        unfirm = Unfirm(1, [[[], "x", ["o"], [1]]])
        self.assertEqual((unfirm.word, unfirm.parts, bool(unfirm), isinstance(unfirm, Denial)),
                         ("unfirm", (1, (((), "x", ("o",), (1,)),)), False, True))
        self.assertEqual((unfirm.pages, unfirm.lines), unfirm.parts)
        self.assertEqual(Unfirm(lines=(((), "x", ("o",), (1,)),), pages=1), unfirm)
        steady = Steady(1, firm, None)
        self.assertEqual((steady.word, steady.parts, bool(steady), isinstance(steady, Denial)), ("steady", (1, firm, None), True, False))
        self.assertEqual((steady.number, steady.firm, steady.unfirm), steady.parts)
        self.assertEqual(Steady(unfirm=None, number=1, firm=firm), steady)
        self.same([firm, Firm(2, firm.entries, firm.cases), unfirm, Unfirm(2, unfirm.lines), steady, Steady(2, firm, unfirm),
                   Paper("firm", *firm.parts), Denial("unfirm", *unfirm.parts)])

    def test_by_hand(self):
        seen = set()
        for chance in chances(330):
            k = chance.choice([1, 2, 2, 3])
            task = small_task(chance, k, 1300, most_states=4, most_deeds=2, most_labels=3 if k == 1 else 2)
            smudges = random_smudges(chance, task)
            paper = keep_smudged(task, k, smudges)
            self.assertEqual(keep_smudged(task, k, smudges), paper)
            fine = some_stays(task, k, smudges)
            self.assertIsInstance(paper, Firm if fine else Unfirm)
            self.assertEqual(paper.pages, k)
            self.assertTrue(is_right(task, smudges, paper))
            self.assertIs(shows_firm(task, smudges, paper), True)
            if fine:
                cells = {row[:2]: row[2:] for row in paper.entries}
                self.assertIsNone(cases_by_hand(task, cells, k, smudges)[1])
            seen.add((fine, k, smudges.many))
        self.assertTrue({(fine, k, many) for fine in (True, False) for k in (1, 2) for many in (0, 1, 2, None)} <= seen, seen)

    def test_least_by_hand(self):
        seen = set()
        for chance in chances(200):
            most = chance.choice([1, 2, 3])
            task = small_task(chance, most, 1300, most_states=3, most_deeds=2, most_labels=2)
            smudges = random_smudges(chance, task)
            paper = least_smudged(task, smudges, most)
            number = next((k for k in range(1, most + 1) if some_stays(task, k, smudges)), None)
            if number is None:
                self.assertEqual(paper, keep_smudged(task, most, smudges))
                self.assertIsInstance(paper, Unfirm)
            else:
                self.assertEqual(paper, Steady(number, keep_smudged(task, number, smudges),
                                               keep_smudged(task, number - 1, smudges) if number > 1 else None))
                self.assertTrue(is_right(task, smudges, paper))
            self.assertIs(shows_firm(task, smudges, paper), True)
            seen.add((number, most))
        self.assertTrue({(None, 1), (None, 2), (1, 2), (None, 3)} <= seen, seen)
        self.assertEqual(least_smudged(COIN_ONCE, Smudges(1), 2).unfirm, keep_smudged(COIN_ONCE, 1, Smudges(1)))

    def test_facts(self):
        # With no smudge it is as without them; fewer smudges and labels never need more pages; any number: one page.
        for chance in chances(150):
            task = small_task(chance, 2, 600, most_states=3, most_deeds=2, most_labels=2)
            smudges = random_smudges(chance, task)
            firm = [bool(keep_smudged(task, k, smudges)) for k in (1, 2)]
            self.assertEqual(bool(keep_smudged(task, 2, Smudges(0))), first_kept(task, 2) is not None)
            self.assertLessEqual(firm[0], firm[1])
            if firm[1] and smudges.many:
                self.assertTrue(keep_smudged(task, 2, Smudges(smudges.many - 1, smudges.labels)))
            if firm[1] and smudges.labels:
                self.assertTrue(keep_smudged(task, 2, Smudges(smudges.many, smudges.labels[1:])))
            self.assertEqual(bool(keep_smudged(task, 2, Smudges(None))), first_kept(task, 1) is not None)

    def test_choices(self):
        # (d k) ** (k s) is at most 100,000.
        wide = free_task(list("abcdefghij"), 5)
        self.assertEqual(how_many(wide, 1), 100000)
        self.assertTrue(keep_smudged(wide, 1, Smudges(1)))
        self.fails(TooMany("choices", 100000), keep_smudged, wide, 2, Smudges(1))
        # It is not the number of choices of the other searches: pages are told apart here.
        two = free_task(list("ab"), 1)
        self.assertTrue(keep_smudged(two, 3, Smudges(1)))
        self.assertEqual((how_many(two, 4), how_many(two, 5)), (4096, 100000))
        self.assertTrue(keep_smudged(two, 5, Smudges(1)))
        self.fails(TooMany("choices", 100000), keep_smudged, two, 6, Smudges(1))
        self.fails(TooMany("choices", 100000), keep_smudged, free_task(list("ab"), 17), 1, Smudges(0))
        self.assertTrue(keep_smudged(free_task(list("ab"), 16), 1, Smudges(0)))
        self.fails(TooMany("choices", 100000), keep_smudged, two, 200, Smudges(0))
        lost = two.changed(watch=never(two.watch.labels, two.watch.deeds, ["l0"]))
        self.fails(TooMany("choices", 100000), least_smudged, lost, Smudges(0), 6)
        self.assertEqual(least_smudged(lost, Smudges(0), 3).pages, 3)
        # A k that is refused is refused only when it is asked.
        self.assertEqual(least_smudged(two, Smudges(None), 200).number, 1)

    def test_one_deed_and_many_sights(self):
        task = chain_task(200, True)
        paper = keep_smudged(task, 1, Smudges(None))
        self.assertEqual((len(paper.lines), len(paper.lines[0][0])), (1, 200))
        self.assertIs(shows_firm(task, Smudges(3), paper), True)
        self.assertTrue(keep_smudged(chain_task(200, False), 1, Smudges(20)))

    def test_errors(self):
        for value in of_every_kind():
            self.fails(BadTask("task"), keep_smudged, value, value, value)
            self.fails(BadTask("task"), least_smudged, value, value, value)
            self.fails(BadSmudges("smudges"), keep_smudged, COIN_ONCE, 200, value)
            self.fails(BadSmudges("smudges"), least_smudged, COIN_ONCE, value, value)
            if value is True or type(value) is not int or value != 1:
                self.fails(BadNumbers("k"), keep_smudged, COIN_ONCE, value, value)
                self.fails(BadNumbers("most"), least_smudged, COIN_ONCE, Smudges(1), value)
        for number in (0, 201, True, -1, "1"):
            self.fails(BadNumbers("k"), keep_smudged, COIN_ONCE, number, Smudges(1))
            self.fails(BadNumbers("most"), least_smudged, COIN_ONCE, Smudges(1), number)


class CheckSmudged(Case):

    def test_bent_stays_and_slips(self):
        seen = {}
        for chance in chances(300):
            task = random_task(chance, most_states=3)
            table = chosen(chance, task, random_table(chance, task, 2, 0.02))
            smudges = random_smudges(chance, task)
            cells = cells_of(table)
            paper = holds_smudged(task, table, smudges)
            self.assertIs(shows_stays(task, table, smudges, paper), True)
            others = list(task.world.states) + [0, 1, 2, True, None, (), "odd", ("s0", 1, "k0", 0), ("s0", 1, "k0", None), ("s0",)]
            for _ in range(10):
                parts = bent(chance, paper.parts, others)
                if len(parts) != len(paper.parts):
                    continue
                value = Stays(*parts) if isinstance(paper, Stays) else Slips(*parts)
                try:
                    fine = (stays_by_hand(task, cells, table.pages, smudges, value.cases) if isinstance(value, Stays)
                            else slips_by_hand(task, cells, table.pages, smudges, value))
                except TypeError:
                    fine = False
                self.assertIs(shows_stays(task, table, smudges, value), fine, (str(task.world), value.parts))
                seen[value.word, fine] = seen.get((value.word, fine), 0) + 1
        self.assertEqual(len(seen), 4, seen)

    def test_more_cases_and_longer_plays(self):
        table = Table.blind(["r"], ["a", "b"])
        told = holds_smudged(COIN_ONCE, table, Smudges(1))
        self.assertIs(shows_stays(COIN_ONCE, table, Smudges(1), Stays(told.cases[::-1])), True)
        self.assertIs(shows_stays(COIN_ONCE, table, Smudges(1), Stays(told.cases[1:])), False)
        self.assertIs(shows_stays(COIN_ONCE, table, Smudges(1), Stays(told.cases + told.cases[:1])), False)
        # Cases that do not come about may be told, too, but their number of smudges is at most the told one.
        calm = COIN_ONCE.changed(watch=Watch.read("r ; a b ; x y ; x x / y y"))
        for more, fine in [((("o", 1, "y", 1), ("o", 2, "y", 1), ("o", 1, "y", 0), ("o", 2, "y", 0)), True),
                           ((("o", 1, "y", 0), ("o", 2, "y", 0)), True), ((("o", 1, "y", 2), ("o", 2, "y", 2)), False),
                           ((("o", 1, "y", 0),), False), ((("o", 1, "y", None), ("o", 2, "y", None)), False)]:
            cases = holds_smudged(calm, table, Smudges(1)).cases
            self.assertIs(shows_stays(calm, table, Smudges(1), Stays(cases + more)), fine, more)
        still = holds_smudged(calm, table, Smudges(1, [])).cases
        for left, fine in ((0, True), (1, True), (-1, False), (2, False), (True, False), (None, False)):
            value = Stays(still + (("o", 1, "y", left), ("o", 2, "y", left)))
            self.assertIs(shows_stays(calm, table, Smudges(1, []), value), fine, left)
        cut = World(["a", "b"], [("o", "r", [["o"], ["o"]]), ("p", "r", [["o"], ["o"]])], ["o"])
        wide = calm.changed(world=cut)
        self.assertIs(shows_stays(wide, table, Smudges(0), Stays([("o", 1, "x", 0), ("o", 2, "x", 0), ("p", 1, "x", 0)])), True)
        for states, pages, fine in [("ooo", [1, 1, 1], True), ("ooo", [1, 2, 2], False), ("oooo", [1, 2, 1, 1], False),
                                    ("ooooo", [1, 2, 1, 1, 2], False), ("oo", [1, 1], False), ("oooo", [1, 2, 2, 2], True),
                                    ("ooo", [1, 1], False), ("ooo", [1, 1, True], False), ("ooo", [2, 1, 1], False), ("ooo", [1, 1, 3], False),
                                    ("ooooo", [1, 2, 1, 1, 1], True)]:
            value = Slips("x", list(states), pages)
            self.assertIs(shows_stays(COIN_ONCE, table, Smudges(2), value), fine, (states, pages))
            self.assertIs(slips_by_hand(COIN_ONCE, cells_of(table), 2, Smudges(2), value), fine)
        self.assertIs(shows_stays(COIN_ONCE, table, Smudges(1), Slips("x", list("ooo"), [1, 1, 1])), False)
        self.assertIs(shows_stays(COIN_ONCE, table, Smudges(2, ["s"]), Slips("x", list("ooo"), [1, 1, 1])), False)

    def test_bent_firms(self):
        seen = {}
        for chance in chances(260):
            k = chance.choice([1, 2])
            task = small_task(chance, k, 300, most_states=3, most_deeds=2, most_labels=2)
            smudges = random_smudges(chance, task)
            paper = keep_smudged(task, k, smudges)
            if isinstance(paper, Unfirm) and len(paper.lines) > 40:
                continue
            others = list(task.world.states) + [0, 1, 2, True, None, (), "odd", (1, "l0", "d0", 1), ("s0", 1, "k0", 0), ("s0",)]
            for _ in range(10):
                parts = bent(chance, paper.parts, others)
                if len(parts) != len(paper.parts):
                    continue
                value = Firm(*parts) if isinstance(paper, Firm) else Unfirm(*parts)
                try:
                    fine = is_right(task, smudges, value)
                except TypeError:
                    fine = False
                self.assertIs(shows_firm(task, smudges, value), fine, (str(task.world), value.parts))
                seen[value.word, fine] = seen.get((value.word, fine), 0) + 1
        self.assertEqual(len(seen), 4, seen)

    def test_lines(self):
        unfirm = keep_smudged(COIN_ONCE, 1, Smudges(1))
        lines = unfirm.lines
        self.assertEqual(len(lines), 2)
        odd = COIN_ONCE.changed(blur=Blur({"r": "r", "s": "idle"}))
        for entry in ((1, "idle", "a", 1), (1, "idle", "b", 1)):
            self.assertIs(shows_firm(odd, Smudges(1), Unfirm(1, [(line[0] + (entry,), *line[1:]) for line in lines])), False)
        idle = [(line[0] + ((1, "idle", deed, 1),), *line[1:]) for line in lines for deed in "ab"]
        self.assertIs(shows_firm(odd, Smudges(1), Unfirm(1, idle)), True)
        ahead = [(((1, "idle", deed, 1),) + line[0], *line[1:]) for line in lines for deed in "ab"]
        self.assertIs(shows_firm(odd, Smudges(1), Unfirm(1, ahead)), True)
        self.assertIs(shows_firm(odd, Smudges(1), Unfirm(1, ahead[:2] + idle[2:])), False)
        self.assertIs(shows_firm(COIN_ONCE, Smudges(1), Unfirm(1, ahead)), False)
        # All go on with the same cell.
        first, second = lines
        mixed = [(((1, "idle", "a", 1),) + first[0], *first[1:]), (((1, "idle", "a", 1),) + second[0], *second[1:]), second]
        self.assertIs(shows_firm(odd, Smudges(1), Unfirm(1, mixed)), False)
        mixed = [first, (((1, "idle", "b", 1),) + first[0], *first[1:]), (((1, "idle", "b", 1),) + second[0], *second[1:])]
        self.assertIs(shows_firm(odd, Smudges(1), Unfirm(1, mixed)), False)
        # Pages are counted from 1, asked ones and next ones.
        zero = [(((0, "idle", deed, 1),) + line[0], *line[1:]) for line in lines for deed in "ab"]
        self.assertIs(shows_firm(odd, Smudges(1), Unfirm(1, zero)), False)
        lost = COIN_ONCE.changed(watch=never(["r"], ["a", "b"], ["r"]))
        for page, fine in ((1, True), (0, False), (2, False), (True, False)):
            told = [(((1, "r", deed, page),), "w0", ("o",), (1,)) for deed in "ab"]
            self.assertIs(shows_firm(lost, Smudges(1), Unfirm(1, told)), fine, page)
        for told, fine in [(lines, True), (lines[::-1], True), (lines[:1], False), (lines + lines[:1], False), ((), False),
                           (((), "x", ("o",), (1,)), False), ((((), "x", ("o",), (1,)),), False), (None, False), (5, False)]:
            self.assertIs(shows_firm(COIN_ONCE, Smudges(1), Unfirm(1, told)), fine, told)
        # A longer play that breaks only at its last moment is right, too.
        calm = COIN_ONCE.changed(watch=Watch.read("r ; a b ; x y ; x y / broken broken"))
        some = keep_smudged(calm, 1, Smudges(0))
        self.assertIsInstance(some, Firm)
        self.assertIs(shows_firm(COIN_ONCE, Smudges(0), unfirm), True)
        self.assertIs(shows_firm(COIN_ONCE, Smudges(1), Unfirm(2, lines)), False)
        self.assertIs(shows_firm(COIN_ONCE, Smudges(1), Unfirm(True, lines)), False)
        self.assertIs(shows_firm(COIN_ONCE, Smudges(1), Unfirm(201, lines)), False)

    def test_steady(self):
        steady = least_smudged(COIN_ONCE, Smudges(1), 2)
        firm, unfirm = steady.firm, steady.unfirm
        for value, fine in [(steady, True), (firm, True), (unfirm, True), (Steady(2, firm, None), False), (Steady(1, firm, None), False),
                            (Steady(3, firm, unfirm), False), (Steady(2, unfirm, unfirm), False), (Steady(2, firm, firm), False),
                            (Steady(2, steady, unfirm), False), (Steady(True, firm, None), False), (Steady(2, None, unfirm), False),
                            (Steady(3, Firm(3, firm.entries, firm.cases), keep_smudged(COIN_ONCE, 1, Smudges(1))), False)]:
            self.assertIs(shows_firm(COIN_ONCE, Smudges(1), value), fine, value.parts)
        one = COIN_ONCE.changed(watch=Watch.read("r ; a b ; x ; x x"))
        paper = least_smudged(one, Smudges(1), 2)
        self.assertEqual((paper.number, paper.unfirm), (1, None))
        self.assertIs(shows_firm(one, Smudges(1), paper), True)
        self.assertIs(shows_firm(one, Smudges(1), Steady(1, paper.firm, unfirm)), False)
        self.assertIs(shows_firm(one, Smudges(1), Steady(True, paper.firm, None)), False)
        three = keep_smudged(COIN_ONCE, 3, Smudges(1))
        self.assertIs(shows_firm(COIN_ONCE, Smudges(1), three), True)
        self.assertIs(shows_firm(COIN_ONCE, Smudges(1), Steady(3, three, unfirm)), False)
        two = keep_smudged(one, 2, Smudges(1))
        self.assertIs(shows_firm(one, Smudges(1), two), True)
        self.assertIs(shows_firm(one, Smudges(1), Steady(2, two, unfirm)), False)

    def test_firms(self):
        firm = keep_smudged(COIN_ONCE, 2, Smudges(1))
        for entries, fine in [(firm.entries, True), (firm.entries[::-1], True), (firm.entries[:1], False), (firm.entries * 2, False), ((), False),
                              (firm.entries + ((1, "odd", "a", 1),), True), (firm.entries + ((1, "odd", "c", 1),), False),
                              (firm.entries + ((3, "odd", "a", 1),), False), (None, False)]:
            self.assertIs(shows_firm(COIN_ONCE, Smudges(1), Firm(2, entries, firm.cases)), fine, entries)
        # Of three pages the third one may lie open, too.
        self.assertIs(shows_firm(COIN_ONCE, Smudges(1), Firm(3, firm.entries, firm.cases)), False)
        self.assertIs(shows_firm(COIN_ONCE, Smudges(0), Firm(3, firm.entries, holds_smudged(COIN_ONCE, PAIR, Smudges(0)).cases)), True)
        self.assertIs(shows_firm(COIN_ONCE, Smudges(0), firm), False)

    def test_any_value(self):
        steady = least_smudged(COIN_ONCE, Smudges(1), 2)
        stays, slips = holds_smudged(COIN_ONCE, PAIR, Smudges(1)), holds_smudged(COIN_ONCE, PAIR, Smudges(2))
        papers = [steady, steady.firm, steady.unfirm, stays, slips]
        for value in of_every_kind() + [other_class(type(paper).__name__, **vars(paper)) for paper in papers]:
            self.assertIs(shows_stays(COIN_ONCE, PAIR, Smudges(1), value), False)
            self.assertIs(shows_firm(COIN_ONCE, Smudges(1), value), False)
            if isinstance(value, dict):
                continue
            try:
                made = [Firm(value, value, value), Unfirm(value, value), Steady(value, value, value), Unfirm(1, value), Firm(1, value, value),
                        Firm(2, steady.firm.entries, value), Unfirm(1, [value]), Unfirm(1, [[value, value, value, value]]),
                        Unfirm(1, [[[value], "x", ["o"], [1]]]), Unfirm(1, [[[[1, "r", value, 1]], "x", ["o"], [1]]])]
                told = [Stays(value), Stays([value]), Stays([[value] * 4]), Slips(value, value, value), Slips("x", value, [1]), Slips("x", ["o"], value),
                        Slips("x", [value], [value]), Slips(value, ["o"], [1])]
            except TypeError:
                continue
            for paper in made:
                self.assertIs(shows_firm(COIN_ONCE, Smudges(1), paper), False, paper.parts)
            for paper in told:
                self.assertIs(shows_stays(COIN_ONCE, PAIR, Smudges(1), paper), False, paper.parts)
        for kind, paper in ((Steady, steady), (Firm, steady.firm), (Unfirm, steady.unfirm)):
            below = type(kind.__name__ + "s", (kind,), {})(*paper.parts)
            self.assertIs(shows_firm(COIN_ONCE, Smudges(1), below), False)
        self.assertIs(shows_stays(COIN_ONCE, PAIR, Smudges(1), type("Below", (Stays,), {})(stays.cases)), False)
        self.assertIs(shows_stays(COIN_ONCE, PAIR, Smudges(2), type("Below", (Slips,), {})(*slips.parts)), False)
        self.assertIs(shows_stays(COIN_ONCE, PAIR, Smudges(1), stays), True)
        self.assertIs(shows_stays(COIN_ONCE, PAIR, Smudges(2), slips), True)

    def test_errors(self):
        odd = Table(2, [(1, "r", "a", 2), (2, "odd", "c", 1)])
        for value in of_every_kind():
            self.fails(BadTask("task"), shows_stays, value, value, value, value)
            self.fails(BadTask("task"), shows_firm, value, value, value)
            self.fails(BadTable("table"), shows_stays, COIN_ONCE, value, value, value)
            self.fails(BadSmudges("smudges"), shows_stays, COIN_ONCE, odd, value, value)
            self.fails(BadSmudges("smudges"), shows_firm, COIN_ONCE, value, value)
            self.fails(Unlike("deeds"), shows_stays, COIN_ONCE, odd, Smudges(1), value)
        # It tries nothing, so nothing is too many.
        self.assertIs(shows_firm(free_task(list("ab"), 17), Smudges(1), keep_smudged(COIN_ONCE, 1, Smudges(1))), False)
        self.assertEqual(Task(COIN_ONCE.world, COIN_ONCE.blur, COIN_ONCE.watch), COIN_ONCE)
