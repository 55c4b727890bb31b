from common import Case, chances, of_every_kind, random_task
from table_hands import random_table
from wait_hands import random_wait

from dimkeeper.among import rows_among
from dimkeeper.blurs import Blur
from dimkeeper.closed import holds
from dimkeeper.delays import least_delay
from dimkeeper.desk import Desk
from dimkeeper.errors import (BadLine, BadText, DimError, NoDeed, NoEntry, NoName, NoSight, Nothing, NotNow, NoWay, TooMany, Unlike)
from dimkeeper.forced import judge
from dimkeeper.halls import Hall, replayed
from dimkeeper.keepers import count_kept, first_kept
from dimkeeper.least import least_pages
from dimkeeper.merges import coarsest
from dimkeeper.moments import sure_moments
from dimkeeper.stories import Story
from dimkeeper.tables import Table
from dimkeeper.tasks import Task, choices
from dimkeeper.waits import Wait
from dimkeeper.watches import Watch
from dimkeeper.worlds import World

COIN = ["set w world a b ; o r ; o ; o , o", "set b blur r r", "set p watch r ; a b ; x y ; y broken / broken x", "task t w b p"]
MORE = COIN + ["set k table 2 : 1 r a 2 / 2 r b 1", "set q wait * / r", "set s story story see r / do a", "set flat table 1 : 1 r a 1"]
PARTS = {"set": "stem text", "task": "stem world blur watch", "merge": "stem world", "find": "stem task number", "hall": "task",
         "see": "name", "do": "name", "undo": "", "follow": "table number", "show": "kept", "judge": "task", "least": "task",
         "count": "task number", "holds": "task table", "alike": "world world", "delay": "task wait number", "sure": "task number",
         "rank": ""}
KINDS = {"world": World, "blur": Blur, "watch": Watch, "table": Table, "wait": Wait, "story": Story, "task": Task}


def is_stem(word):
    return 1 <= len(word) <= 12 and word[0] in "abcdefghijklmnopqrstuvwxyz" and word.isalnum() and word == word.lower() and word.isascii()


def is_name(word):
    return 1 <= len(word.split(".")) <= 6 and all(is_stem(stem) for stem in word.split("."))


def is_number(word):
    return word.isdigit() and word.isascii() and word == str(int(word)) and 1 <= int(word) <= 200 if len(word) < 10 and word else False


def first_bad(desk, line):
    """The index of the first word that cannot stand, None if all can."""
    words = line.split(" ")
    if words[0] not in PARTS:
        return 0
    at = 1
    for part in PARTS[words[0]].split():
        if part == "text":
            if at == len(words) or words[at] not in KINDS or words[at] == "task":
                return at
            try:
                KINDS[words[at]].read(" ".join(words[at + 1:]))
            except BadText as error:
                return at + 1 + error.word
            return None
        if at == len(words):
            return at
        word = words[at]
        fine = {"stem": is_stem, "name": is_name, "number": is_number}.get(part)
        if fine is None:
            kept = desk.value_of(word) if word in desk.kept_names() else None
            good = kept is not None and (part == "kept" or isinstance(kept, KINDS[part]))
        else:
            good = fine(word)
        if not good:
            return at
        at += 1
    return None if at == len(words) else at


def stands(desk):
    """What a desk keeps."""
    hall = desk.hall_now()
    return {name: desk.value_of(name) for name in desk.kept_names()}, hall, desk.told_lines()


class Desks(Case):

    def test_example(self):
        desk = Desk()
        self.assertEqual(desk.run(COIN + ["least t", "find k t 2", "holds t k", "sure t 1"]),
                         ["set", "set", "set", "set", "least 2", "pages 2", "holds 2", "1"])
        self.assertEqual(desk.run(["hall t", "see r", "follow k 1", "see r", "rank", "show k"]),
                         ["open", "1 kept", "2", "1 kept", "held", "2 : 1 r a 2 / 2 r b 1"])
        self.assertEqual([desk.tell("do a"), desk.back(), desk.tell("do b"), desk.told_lines()[-2:]],
                         ["1 broken", "do a", "1 kept", ("see r", "do b")])
        self.fails(BadText(0, 1), desk.tell, "least w")

    def test_an_empty_desk(self):
        desk = Desk()
        self.assertEqual((desk.told_lines(), desk.kept_names(), desk.hall_now()), ((), (), None))
        self.fails(Nothing(), desk.back)
        self.assertEqual(desk.run([]), [])
        self.assertEqual(Desk([]), Desk(()))
        self.assertEqual(Desk(lines=COIN), Desk(tuple(COIN)))

    def test_each_kind(self):
        desk = Desk(MORE)
        told = {"w": World.read("a b ; o r ; o ; o , o"), "b": Blur({"r": "r"}), "p": Watch.read("r ; a b ; x y ; y broken / broken x"),
                "k": Table.read("2 : 1 r a 2 / 2 r b 1"), "q": Wait(None, ["r"]), "s": Story([("see", "r"), ("do", "a")]),
                "flat": Table.read("1 : 1 r a 1")}
        told["t"] = Task(told["w"], told["b"], told["p"])
        self.assertEqual(desk.kept_names(), tuple(sorted(told)))
        for name, value in told.items():
            self.assertEqual(desk.value_of(name), value)
            self.assertEqual(desk.tell(f"show {name}"), "task" if name == "t" else str(value))
        self.assertEqual(desk.told_lines(), tuple(MORE))

    def test_answers(self):
        desk = Desk(MORE)
        for line, answer in [("judge t", "held 2"), ("least t", "least 2"), ("count t 1", "0"), ("count t 3", str(count_kept(desk.value_of("t"), 3))),
                             ("holds t k", "holds 2"), ("holds t flat", "broken 1"), ("alike w w", "alike"), ("delay t q 1", "never"),
                             ("delay t q 2", "1"), ("sure t 1", "1"), ("sure t 2", "always"), ("find x t 1", "none"), ("merge m w", "1"),
                             ("find k t 3", "pages 2"), ("hall t", "open"), ("rank", "held"), ("see r", "1 kept"), ("do b", "1 broken"),
                             ("rank", "broken"), ("see r", "1 broken"), ("do a", "1 broken"), ("undo", "1 broken"), ("undo", "1 broken"),
                             ("undo", "1 kept"), ("undo", "1 kept"), ("set z blur r r", "set")]:
            self.assertEqual(desk.tell(line), answer, line)
        self.assertEqual(desk.kept_names(), ("b", "flat", "k", "m", "p", "q", "s", "t", "w", "z"))
        self.assertEqual(desk.tell("set lack table 1 : 1 odd a 1"), "set")
        self.assertEqual(desk.tell("holds t lack"), "lacks 1 r")
        desk.run(["set g world left right ; a l b r fa f fb f x x ; a ; fa , fa / fb , fb / a b , x / x , a b / x , x",
                  "set h world left right ; a l b r fa f fb f x x ; b ; fa , fa / fb , fb / a b , x / x , a b / x , x",
                  "set i world left right ; a l ; a ; a , a", "set j world left right ; a l b r ; a b ; a , a / b , b"])
        self.assertEqual(desk.run(["alike g h", "alike i j", "alike j i", "alike h g"]), ["first l", "other r", "first r", "first r"])
        desk.run(["set v watch l r f x ; left right ; w0 ; w0 w0 , w0 w0 , w0 w0 , broken broken", "set dim blur f f l o r o x x",
                  "task lost g dim v", "set c blur f f l l r r x x"])
        self.assertEqual(desk.tell("merge m g"), "5")

    def test_lost_tasks(self):
        lines = ["set w world left right ; p l q r x x ; p q ; p , x / x , q / x , x", "set b blur l u r u x x",
                 "set p watch l r x ; left right ; w0 ; w0 w0 , w0 w0 , broken broken", "task t w b p"]
        desk = Desk(lines)
        self.assertEqual(desk.run(["judge t", "least t", "hall t", "rank", "see u", "rank", "do left", "rank", "sure t 1"]),
                         ["lost 2", "lost 2", "open", "lost 2", "2 kept", "lost 2", "2 kept", "lost 1", "1"])
        self.assertEqual(desk.run(["see x", "do left", "undo", "undo", "see u"]), ["1 kept", "1 broken", "1 kept", "2 kept", "1 kept"])
        self.assertEqual(desk.run(["do left", "undo", "undo", "undo", "undo"]), ["1 kept", "1 kept", "2 kept", "2 kept", "2 kept"])
        self.assertEqual(desk.run(["see u", "do left"])[-1], "2 kept")
        open_line = Desk(lines + ["hall t", "see u", "do left"])
        self.assertEqual(open_line.run(["set n watch l r x ; left right ; w0 ; w0 w0 , broken broken , w0 w0", "task t w b n", "hall t", "see u",
                                        "do left", "rank"])[-2:], ["2 open", "broken"])

    def test_answers_by_the_functions(self):
        for chance in chances(60):
            task, other = random_task(chance, most_states=3, most_deeds=2).changed(), random_task(chance, most_states=3, most_deeds=2)
            table, wait, k = random_table(chance, task, 2), random_wait(chance, task), chance.choice([1, 2])
            desk = Desk([f"set w world {task.world}", f"set v world {other.world}", f"set b blur {task.blur}", f"set p watch {task.watch}",
                         "task t w b p", f"set k table {table}", f"set q wait {wait}"])
            self.assertEqual(desk.value_of("t"), task)
            verdict, least = judge(task), least_pages(task)
            self.assertEqual(desk.tell("judge t"), f"held {len(verdict.pages)}" if verdict else f"lost {verdict.number}")
            self.assertEqual(desk.tell("least t"), f"{'least' if least else 'lost'} {least.number}")
            self.assertEqual(desk.tell("merge m w"), str(len(coarsest(task.world))))
            self.assertEqual(desk.value_of("m"), coarsest(task.world))
            if task.world.deeds == other.world.deeds:
                first, second = rows_among(task.world, other.world), rows_among(other.world, task.world)
                told = " ".join(["first", *first.row]) if not first else " ".join(["other", *second.row]) if not second else "alike"
                self.assertEqual(desk.tell("alike w v"), told)
            else:
                self.fails(Unlike("deeds"), desk.tell, "alike w v")
            if choices(task, k) > 2000:
                continue
            self.assertEqual(desk.tell(f"count t {k}"), str(count_kept(task, k)))
            kept, paper = first_kept(task, k), least_delay(task, wait, k)
            self.assertEqual(desk.tell(f"find f t {k}"), f"pages {kept.pages}" if kept else "none")
            if kept:
                self.assertEqual(desk.value_of("f"), Table(kept.pages, kept.entries))
            else:
                self.fails(NoName("f"), desk.value_of, "f")
            self.assertEqual(desk.tell(f"delay t q {k}"), str(paper.number) if paper else "never")
            self.assertEqual(desk.tell(f"sure t {k}"), "always" if kept else str(sure_moments(task, k).number))
            shown = holds(task, table)
            told = (f"holds {len(shown.triples)}" if shown else f"lacks {shown.page} {shown.sight}" if shown.word == "lacks"
                    else f"broken {len(shown.states) - 1}")
            self.assertEqual(desk.tell("holds t k"), told)

    def test_values_replaced(self):
        desk = Desk(COIN + ["hall t", "set w blur r r", "set p wait * / r", "set b story story"])
        task = desk.value_of("t")
        self.assertEqual(desk.run(["see r", "do a", "show w", "least t"]), ["1 kept", "1 kept", "r r", "least 2"])
        self.assertEqual(desk.run(["set t wait r / r", "see r", "do b"]), ["set", "1 kept", "1 kept"])
        self.assertEqual(desk.hall_now().task, task)
        self.fails(BadText(0, 1), desk.tell, "hall t")
        self.assertEqual([desk.back() for _ in range(3)], ["do b", "see r", "set t wait r / r"])
        self.assertEqual(desk.value_of("t"), task)
        # A task may replace what it is made of, and a table found the task.
        desk = Desk(COIN + ["task w w b p"])
        self.assertEqual(desk.tell("find w w 2"), "pages 2")
        self.assertEqual(desk.tell("show w"), "2 : 1 r a 2 / 2 r b 1")
        self.assertEqual((desk.back(), desk.back(), desk.tell("merge w w")), ("find w w 2", "task w w b p", "1"))

    def test_find_that_finds_nothing(self):
        desk = Desk(MORE)
        ahead = stands(desk)
        self.assertEqual((desk.tell("find k t 1"), desk.tell("find new t 1")), ("none", "none"))
        self.assertEqual(stands(desk), ahead)
        self.assertEqual(desk.back(), MORE[-1])

    def test_words(self):
        desk = Desk(MORE + ["hall t"])
        lines = MORE + ["merge m w", "find f t 2", "hall t", "see r", "do a", "undo", "follow k 1", "show k", "judge t", "least t",
                        "count t 2", "holds t k", "alike w w", "delay t q 1", "sure t 200", "rank", "show", "x"]
        odd = ["", "w", "t", "k", "a", "z9", "9z", "A", "a.b", "0", "1", "200", "201", "01", "world", "task", "story", "/", ";", "see", "undo"]
        kinds = set()
        for line in lines:
            words = line.split(" ")
            told = [words[:many] for many in range(len(words) + 1)]
            for at in range(len(words) + 1):
                told += [words[:at] + [word] + words[at:] for word in odd]
                if at < len(words):
                    told += [words[:at] + [word] + words[at + 1:] for word in odd] + [words[:at] + words[at + 1:]]
            for bent in told + [[""] + words, words + [""]]:
                bent = " ".join(bent)
                bad, ahead = first_bad(desk, bent), stands(desk)
                if bad is not None:
                    self.fails(BadText(0, bad), desk.tell, bent)
                    self.assertEqual(stands(desk), ahead)
                    kinds.add((words[0], bad))
                    continue
                many = len(desk.told_lines())
                try:
                    self.assertIsInstance(desk.tell(bent), str)
                except DimError as error:
                    self.assertNotIsInstance(error, BadText, bent)
                    self.assertEqual(stands(desk), ahead)
                while len(desk.told_lines()) > many:
                    desk.back()
                self.assertEqual(stands(desk), ahead)
        self.assertGreater(len(kinds), 60)
        for value in of_every_kind():
            if not isinstance(value, str):
                self.fails(BadText(0, 0), desk.tell, value)

    def test_wrong_lines(self):
        desk = Desk(MORE)
        for line, word in [("", 0), (" ", 0), ("Set w world", 0), ("set", 1), ("set W world", 1), ("set w.x world", 1), ("set w", 2), ("set w task t", 2),
                           ("set w world", 3), ("set w world ", 3), ("set w world a ; p l q l ; q p ; p / q", 11), ("set w blur r", 4), ("set w wait * / ", 5),
                           ("set w story see", 3), ("set w table 1 : 1 r a 2", 8), ("set aaaaaaaaaaaaa blur r r", 1), ("task t w b", 4),
                           ("task t b w p", 2), ("task t w b p x", 5), ("task t w b odd", 4), ("merge m t", 2), ("find f w 1", 2), ("find f t 0", 3),
                           ("find f t 201", 3), ("find f t 1 1", 4), ("find f t 1.0", 3), ("hall", 1), ("hall w", 1), ("see", 1), ("see R", 1), ("see r r", 2),
                           ("undo x", 1), ("follow k", 2), ("follow w 1", 1), ("follow k 0", 2), ("rank x", 1), ("show odd", 1), ("show", 1), ("show k k", 2),
                           ("judge k", 1), ("alike w", 2), ("alike w t", 2), ("delay t 1 1", 2), ("delay q t 1", 1), ("sure t one", 2), ("holds k t", 1),
                           ("see r ", 2), ("  rank", 0), ("count t 0000000001", 2)]:
            self.fails(BadText(0, word), desk.tell, line)
        self.assertEqual(stands(desk), stands(Desk(MORE)))

    def test_errors_behind_the_words(self):
        desk = Desk(MORE)
        # A wanted hall is asked behind the words, ahead of what the functions raise.
        for line in ("see odd", "do odd", "undo", "follow k 200", "rank"):
            self.fails(Nothing(), desk.tell, line)
        self.fails(BadText(0, 2), desk.tell, "follow k x")
        self.fails(TooMany("choices", 100000), desk.tell, "find f t 200")
        self.fails(TooMany("choices", 100000), desk.tell, "count t 200")
        self.fails(TooMany("choices", 100000), desk.tell, "delay t q 200")
        self.fails(TooMany("choices", 100000), desk.tell, "sure t 200")
        desk.run(["hall t", "set c table 1 : 1 odd c 1", "set c2 table 2 : 1 r a 2 / 2 r c 1", "set ww world a c ; o r ; o ; o , o"])
        ahead = stands(desk)
        for line, error in [("do a", NotNow("deed")), ("see odd", NoSight("odd")), ("undo", Nothing()), ("follow k 1", NotNow("deed")),
                            ("holds t c", Unlike("deeds")), ("alike w ww", Unlike("deeds")), ("task x ww b p", Unlike("deeds"))]:
            self.fails(error, desk.tell, line)
            self.assertEqual(stands(desk), ahead)
        desk.tell("see r")
        for line, error in [("see r", NotNow("sight")), ("do c", NoDeed("c")), ("follow k 3", NoEntry(3, "r")), ("follow c 1", NoEntry(1, "r")),
                            ("follow c2 2", NoDeed("c"))]:
            self.fails(error, desk.tell, line)
        desk.run(["set far world d ; s l t m ; s ; s / t", "set fb blur l l m m", "set fp watch l m ; d ; w ; w , w", "task ft far fb fp", "hall ft"])
        self.fails(NoWay("m"), desk.tell, "see m")

    def test_run(self):
        for value in of_every_kind():
            if not isinstance(value, (list, tuple)):
                self.bad_line(0, BadText(0, 0), Desk().run, value)
                self.bad_line(0, BadText(0, 0), Desk, value)
        lines = MORE + ["hall t", "see r", "set w wait r / r", "follow k 1", "undo", "find k t 3"]
        whole = Desk(lines)
        for at in range(len(lines) + 1):
            for many in range(at + 1):
                desk = Desk(lines[:many])
                ahead = stands(desk)
                self.bad_line(at - many, BadText(0, 0), desk.run, lines[many:at] + ["odd"] + lines[at:])
                self.assertEqual(stands(desk), ahead)
                self.assertEqual(len(desk.run(lines[many:])), len(lines) - many)
                self.assertEqual(desk, whole)
        self.bad_line(4, BadText(0, 1), Desk, COIN + ["least w"])
        self.bad_line(4, Nothing(), Desk, COIN + ["see r", "least w"])
        self.bad_line(5, NoSight("odd"), Desk(COIN).run, ["hall t", "see r", "do a", "undo", "undo", "see odd"])
        self.bad_line(2, TooMany("choices", 100000), Desk(COIN).run, ("hall t", "see r", "count t 200"))
        self.bad_line(1, BadText(0, 0), Desk(COIN).run, ["hall t", None])

    def bad_line(self, index, error, call, *args):
        try:
            call(*args)
        except BadLine as raised:
            self.assertIs(type(raised), BadLine)
            self.assertEqual((raised.line, type(raised.error), vars(raised.error)), (index, type(error), vars(error)))
            return
        self.fail("no error was raised")

    def test_told_one_by_one_and_at_once(self):
        for chance in chances(40):
            lines, desk = self.random_lines(chance, 25)
            one = Desk()
            answers = [one.tell(line) for line in lines]
            self.assertEqual(Desk().run(lines), answers)
            self.assertEqual(one, desk)
            self.assertEqual(Desk(lines), desk)
            self.assertEqual(Desk(desk.told_lines()), desk)
            self.assertEqual(stands(Desk(desk.told_lines())), stands(desk))

    def random_lines(self, chance, many):
        """Lines that can be told one behind the other, and the desk that was told them."""
        desk, lines = Desk(), []
        pool = MORE + ["set w world a b ; o r p r ; o ; o p , o / o , p", "set b blur r q", "set p watch r ; b a ; x ; x x", "task t w b p", "task u w b p",
                       "merge w w", "merge m w", "find k t 2", "find f u 1", "hall t", "hall u", "see r", "see q", "do a", "do b", "undo",
                       "follow k 1", "follow k 2", "follow f 1", "show w", "judge t", "rank", "count u 2", "holds t k", "see r", "do a", "undo"]
        while len(lines) < many:
            line = chance.choice(pool)
            try:
                desk.tell(line)
            except DimError:
                continue
            lines.append(line)
        return lines, desk

    def test_taken_back(self):
        seen = set()
        for chance in chances(60):
            lines, _ = self.random_lines(chance, 25)
            desk, past = Desk(), [stands(Desk())]
            for line in lines:
                many = len(desk.told_lines())
                desk.tell(line)
                if len(desk.told_lines()) > many:
                    past.append(stands(desk))
                    self.assertEqual(desk.told_lines()[-1], line)
                    seen.add(line.split(" ")[0])
            self.assertEqual(len(past), len(desk.told_lines()) + 1)
            # Some are taken back, told again, and then all are taken back.
            told = desk.told_lines()
            for _ in range(chance.randint(0, len(told))):
                self.assertEqual(stands(desk), past[len(desk.told_lines())])
                desk.back()
            for line in told[len(desk.told_lines()):]:
                desk.tell(line)
                self.assertEqual(stands(desk), past[len(desk.told_lines())])
            for at, line in list(enumerate(told))[::-1]:
                self.assertEqual(desk.back(), line)
                self.assertEqual(stands(desk), past[at])
                self.assertEqual(Desk(desk.told_lines()), desk)
            self.fails(Nothing(), desk.back)
        self.assertEqual(seen, {"set", "task", "merge", "find", "hall", "see", "do", "undo", "follow"})

    def test_values(self):
        desk = Desk(MORE)
        for value in of_every_kind() + ["W", "odd", ("w",), ["w"]]:
            self.fails(NoName(value), desk.value_of, value)
        desk.tell("hall t")
        hall = desk.hall_now()
        hall.see("r")
        self.assertEqual((desk.hall_now(), desk.hall_now() == hall), (Hall(desk.value_of("t")), False))
        desk.tell("see r")
        self.assertEqual(desk.hall_now(), hall)
        hall.do("a")
        self.assertEqual(desk.hall_now(), replayed(desk.value_of("t"), Story([("see", "r")])))
        names = desk.kept_names()
        desk.tell("set zz blur r r")
        self.assertNotIn("zz", names)

    def test_lines_are_copied(self):
        lines = list(COIN)
        desk = Desk(lines)
        lines.clear()
        self.assertEqual(desk.told_lines(), tuple(COIN))
        answers = desk.run(["show b"])
        answers.append("x")
        self.assertEqual(desk.run(["show b"]), ["r r"])

    def test_equality(self):
        desks = [Desk(), Desk(COIN[:1]), Desk(COIN), Desk(COIN + ["hall t"]), Desk(COIN + ["hall t", "see r"]), Desk(COIN + ["hall t", "see r", "do a"]),
                 Desk(COIN + ["set w wait r / r"]), Desk(MORE), Desk(COIN + ["set v world a b ; o r ; o ; o , o"])]
        self.same(desks)
        # The same names, values and hall, by whatever lines.
        self.assertEqual(Desk(COIN + ["hall t", "see r", "undo"]), desks[3])
        self.assertEqual(Desk(COIN[::-1][1:] + COIN[3:] + ["judge t"]), desks[2])
        self.assertEqual(Desk(["set w blur r r"] + COIN), desks[2])
        other = Desk(COIN)
        other.tell("hall t")
        other.back()
        self.assertEqual(other, desks[2])
