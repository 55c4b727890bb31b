from bending import bent
from common import Case, chances, of_every_kind, other_class, random_task
from table_hands import list_by_hand, small_task
from test_check_kept import kept_is_right
from test_check_trees import fault_by_hand
from test_keepers import APART, BY_TURNS, free_task
from test_refuse import chain_task
from test_views import ring_task, subset_task

from dimkeeper.blurs import Blur
from dimkeeper.check_kept import shows_kept
from dimkeeper.check_least import shows_least
from dimkeeper.check_trees import shows_refusal
from dimkeeper.check_views import shows_lost
from dimkeeper.cut import cut, fewer
from dimkeeper.errors import BadNumbers, BadTask, TooMany
from dimkeeper.forced import judge
from dimkeeper.keepers import Kept, first_kept
from dimkeeper.least import Least, keep, least_pages
from dimkeeper.papers import Denial, Paper
from dimkeeper.promises import both, never
from dimkeeper.refuse import Refusal, refusal
from dimkeeper.tasks import Task, choices
from dimkeeper.trees import Leaf
from dimkeeper.watches import Watch
from dimkeeper.worlds import World

COIN = World.read("a b ; o r ; o ; o , o")


def word_task(word):
    """A task in which the deeds of a word are to be done again and again, without anything that is seen."""
    states = [f"k{at}" for at in range(len(word))]
    rows = [(state, [[states[(at + 1) % len(word)] if deed == word[at] else "broken" for deed in "ab"]])
            for at, state in enumerate(states)]
    return Task(COIN, Blur.alike(["r"]), Watch(["r"], ["a", "b"], rows))


def pages_of_word(word):
    """The least pages for a word that is done again and again: its own length, if it is not made of repeats."""
    return min(many for many in range(1, len(word) + 1) if len(word) % many == 0
               and word == word[:many] * (len(word) // many))


class LeastPages(Case):

    def test_example(self):
        few = least_pages(BY_TURNS)
        self.assertEqual([few.number, few.kept.entries, few.refusal == keep(BY_TURNS, 1), bool(keep(BY_TURNS, 1)),
                          bool(keep(BY_TURNS, 2)), shows_least(BY_TURNS, few)],
                         [2, ((1, "r", "a", 2), (2, "r", "b", 1)), True, False, True, True])
        alike = APART.changed(blur=Blur({"l": "u", "r": "u", "x": "x"}))
        self.assertEqual([least_pages(APART).number, least_pages(APART).refusal, least_pages(alike).word,
                          least_pages(alike).number], [1, None, "lost", 2])

    def test_paper(self):
        kept = Kept(1, [[1, "r", "a", 1]], [["o", 1, "w"]])
        paper = Least(1, kept, None)
        self.assertEqual((paper.word, paper.parts, bool(paper), isinstance(paper, Denial)), ("least", (1, kept, None), True, False))
        self.assertEqual((paper.number, paper.kept, paper.refusal), paper.parts)
        self.assertEqual(Least(refusal=None, kept=kept, number=1), paper)
        self.same([paper, Least(2, kept, Refusal(1, Leaf("w", ["o"]))), Least(1, None, None), Paper("least", 1, kept, None)])

    def test_words(self):
        for word in ("a", "aa", "ab", "aab", "aaab", "abab", "aabb", "ababb", "aabab"):
            paper = least_pages(word_task(word))
            self.assertEqual(paper.number, pages_of_word(word))
            self.assertIs(shows_least(word_task(word), paper), True)

    def test_by_hand(self):
        seen = {}
        for chance in chances(250):
            task = small_task(chance, 2, 700, most_states=4, most_deeds=2, most_labels=2)
            if not judge(task):
                paper = least_pages(task)
                self.assertEqual(paper, judge(task))
                self.assertIs(shows_lost(task, paper), True)
                self.assertFalse(any(list_by_hand(task, k) for k in (1, 2)))
                seen["lost"] = seen.get("lost", 0) + 1
                continue
            few = next((k for k in (1, 2) if list_by_hand(task, k)), None)
            if few is not None:
                paper = least_pages(task)
                self.assertEqual(paper, least_pages(task))
                self.assertEqual(paper, Least(few, first_kept(task, few), refusal(task, few - 1) if few > 1 else None))
                self.assertIs(shows_least(task, paper), True)
                seen[few] = seen.get(few, 0) + 1
        self.assertEqual(set(seen), {"lost", 1, 2}, seen)

    def test_just_one_of_both_papers(self):
        for chance in chances(120):
            task, k = random_task(chance), chance.choice([1, 2, 3])
            if choices(task, k) > 1000:
                continue
            paper = keep(task, k)
            self.assertIs(shows_kept(task, paper), bool(paper))
            self.assertIs(shows_refusal(task, paper), not paper)
            self.assertEqual(paper, first_kept(task, k) or refusal(task, k))
            if paper and k < 3 and choices(task, k + 1) <= 1000:
                self.assertTrue(keep(task, k + 1))
            if not judge(task):
                self.assertFalse(paper)

    def test_pages_of_the_cover_are_enough(self):
        for chance in chances(100):
            task = random_task(chance, most_states=4)
            paper = judge(task)
            if paper and choices(task, len(paper.pages)) <= 3000:
                self.assertTrue(keep(task, len(paper.pages)))
                self.assertLessEqual(least_pages(task).number, len(paper.pages))

    def test_both_promises_at_once(self):
        # A number of pages that holds both of two promises holds each, so what refuses one refuses both.
        many = 0
        for chance in chances(150):
            task = small_task(chance, 2, 3000, most_states=3, most_deeds=2, most_labels=2)
            labels, deeds = task.watch.labels, task.watch.deeds
            other = never(labels, deeds, labels[:1])
            harder = task.changed(watch=both(task.watch, other))
            if not keep(task.changed(), 2) or not keep(task.changed(watch=other), 2):
                self.assertFalse(keep(harder, 2))
                many += 1
        self.assertGreater(many, 20)

    def test_fewer_pages_and_cuts(self):
        for word in ("aab", "aabb"):
            task = word_task(word)
            paper = least_pages(task).refusal
            for k in range(1, paper.pages + 1):
                self.assertEqual(fewer(paper, k), refusal(task, k))
            self.assertIs(shows_refusal(task, cut(task, paper)), True)

    def test_errors(self):
        for value in of_every_kind():
            if not isinstance(value, Task):
                for call in (keep, lambda told, _: least_pages(told), shows_least):
                    self.fails(BadTask("task"), call, value, value)
            if not (type(value) is int and 1 <= value <= 200):
                self.fails(BadNumbers("k"), keep, BY_TURNS, value)
        self.fails(BadNumbers("k"), keep, BY_TURNS, 201)
        self.fails(TooMany("choices", 100000), keep, BY_TURNS, 200)
        self.fails(TooMany("choices", 100000), keep, free_task(["a", "b", "c"], 11), 1)
        self.fails(TooMany("choices", 100000), least_pages, free_task(["a", "b", "c"], 11))
        self.fails(TooMany("depth", 60), keep, chain_task(61, True), 1)
        self.assertEqual(keep(chain_task(60, True), 1).tree.depth, 60)
        self.assertEqual(least_pages(chain_task(200, True)).word, "lost")
        self.assertEqual(least_pages(chain_task(200, False)).number, 1)

    def test_many_views_and_choices(self):
        self.fails(TooMany("views", 1000), least_pages, subset_task(10))
        self.assertTrue(least_pages(subset_task(9)))
        # 125 states and 8 watch states make 1,000 views, 143 and 7 make 1,001.
        self.assertEqual(least_pages(ring_task(125, 8)).number, 1)
        self.assertEqual(least_pages(ring_task(125, 8, True)).number, 8)
        self.fails(TooMany("views", 1000), least_pages, ring_task(143, 7))
        # Seven deeds in turn are held by seven pages: the choices with 6 pages are too many.
        long = word_task("aaaaaab")
        self.assertTrue(choices(long, 5) <= 100000 < choices(long, 6))
        self.fails(TooMany("choices", 100000), least_pages, long)
        self.assertEqual(least_pages(word_task("aaaab")).number, 5)


class CheckLeast(Case):

    def test_bent_papers(self):
        seen = {}
        for chance in chances(120):
            task = small_task(chance, 2, 700, most_states=4, most_deeds=2, most_labels=2)
            if not judge(task):
                continue
            try:
                paper = least_pages(task)
            except TooMany:
                continue
            others = [0, 1, 2, 3, None, True, paper.kept, paper.refusal, keep(task, 1), keep(task, 2), judge(task)]
            for _ in range(12):
                parts = bent(chance, paper.parts, others)
                if len(parts) != 3:
                    continue
                number, kept, refused = parts
                right = (type(number) is int and number >= 1 and isinstance(kept, Kept) and kept_is_right(task, *kept.parts)
                         and kept.pages == number)
                if right and number == 1:
                    right = refused is None
                elif right:
                    right = (isinstance(refused, Refusal) and refused.pages == number - 1
                             and fault_by_hand(task, number - 1, refused.tree) is None)
                self.assertIs(shows_least(task, Least(*parts)), right, parts)
                seen[right] = seen.get(right, 0) + 1
        self.assertEqual(len(seen), 2)

    def test_parts(self):
        few = least_pages(BY_TURNS)
        kept = few.kept
        wide = Kept(3, kept.entries, kept.triples)
        for number, one, other, right in [
                (2, kept, few.refusal, True), (2, Kept(2, kept.entries[::-1], kept.triples[::-1]), few.refusal, True),
                (3, wide, few.refusal, False), (2, wide, few.refusal, False), (3, wide, Refusal(2, few.refusal.tree), False),
                (2, kept, None, False), (2, kept, Refusal(2, few.refusal.tree), False), (1, kept, None, False),
                (2, kept, cut(BY_TURNS, few.refusal), True), (True + 1, kept, few.refusal, True), (2, None, few.refusal, False),
                (0, kept, None, False), (2, few.refusal, kept, False)]:
            self.assertIs(shows_least(BY_TURNS, Least(number, one, other)), right)
        self.assertIs(shows_least(APART, Least(1, first_kept(APART, 1), None)), True)
        self.assertIs(shows_least(APART, Least(True, first_kept(APART, 1), None)), False)
        self.assertIs(shows_least(APART, Least(1, first_kept(APART, 1), few.refusal)), False)
        self.assertIs(shows_least(BY_TURNS, Least(1, first_kept(APART, 1), None)), False)

    def test_any_values(self):
        class Lower(Least):
            pass
        few = least_pages(BY_TURNS)
        for value in of_every_kind() + [Lower(*few.parts), Paper("least", *few.parts), judge(BY_TURNS), few.kept, few.refusal,
                                        other_class("Least", number=2, kept=few.kept, refusal=few.refusal)]:
            self.assertIs(shows_least(BY_TURNS, value), False)
            if value is not few.kept and value is not few.refusal and (not isinstance(value, dict) or None not in value):
                for paper in (Least(value, few.kept, few.refusal), Least(2, value, few.refusal), Least(2, few.kept, value)):
                    self.assertIs(shows_least(BY_TURNS, paper), False)
