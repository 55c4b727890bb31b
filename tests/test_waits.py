from common import Case, of_every_kind

from dimkeeper.errors import BadText, BadWait, TooMany
from dimkeeper.waits import Wait

MANY = [f"n{at}" for at in range(201)]


class Waits(Case):

    def test_example(self):
        self.assertEqual([str(Wait(["r", "l"], ["h"])), str(Wait.again(["h"])), Wait.read("* / h") == Wait(None, ["h"]),
                          Wait(["l"], ["h"]).is_asked("h")], ["l r / h", "* / h", True, False])

    def test_attributes(self):
        asked, answers = ["r", "l"], ["z", "h"]
        wait = Wait(asked, answers)
        asked.append("x")
        answers.clear()
        self.assertEqual((wait.asked, wait.answers), (("l", "r"), ("h", "z")))
        self.assertEqual((Wait(None, ("b", "a")).asked, Wait(None, ("b", "a")).answers), (None, ("a", "b")))
        self.assertEqual(Wait(answers=["h"], asked=["l"]), Wait(("l",), ("h",)))
        self.assertEqual(Wait.again(answers=("b", "a")), Wait(None, ["a", "b"]))

    def test_asked_and_answers(self):
        some, every = Wait(["l", "a.b"], ["h", "l"]), Wait.again(["h"])
        for value in of_every_kind() + ["l", "a.b", "h", "a.b.c.d.e.f.g", "a" * 13, ("l",), ["h"]]:
            self.assertIs(some.is_asked(value), isinstance(value, str) and value in ("l", "a.b"))
            self.assertIs(some.is_answer(value), isinstance(value, str) and value in ("h", "l"))
            self.assertIs(every.is_answer(value), isinstance(value, str) and value == "h")
            self.assertIs(every.is_asked(value), isinstance(value, str) and value in ("x", "l", "h", "a.b"))

    def test_equality(self):
        self.same([Wait(["l"], ["h"]), Wait(["l", "r"], ["h"]), Wait(["l"], ["h", "l"]), Wait(None, ["h"]), Wait(None, ["l"])])
        self.assertEqual(Wait(["r", "l"], ["z", "h"]), Wait(("l", "r"), ("h", "z")))

    def test_texts(self):
        for wait in [Wait(["l"], ["h"]), Wait(["b", "a.a", "a"], ["z", "a"]), Wait(None, ["h"]), Wait(None, ["b", "a", "c"]),
                     Wait(MANY[:200], MANY[1:])]:
            self.reads(Wait, wait)
        for text in ["l r / h", "* / h", "a b c / a b", "* / a.b c"]:
            self.assertEqual(str(Wait.read(text)), text)
            self.bends(Wait, text)
            self.refuses_texts(Wait, text)

    def test_wrong_texts(self):
        for text, word in [("/ h", 0), ("l", 1), ("l /", 2), ("*", 1), ("* /", 2), ("* l / h", 1), ("l * / h", 1), ("r l / h", 1),
                           ("l l / h", 1), ("l / z h", 3), ("l / h h", 3), ("l / h /", 3), ("l / *", 2), ("* / *", 2), ("L / h", 0),
                           ("l / h ", 3), ("** / h", 0), ("l r s", 3), ("l r h", 2), (" * / h", 0)]:
            self.fails(BadText(0, word), Wait.read, text)

    def test_texts_of_many_labels(self):
        rows = sorted(MANY)
        self.fails(BadText(0, 200), Wait.read, " ".join(rows) + " / h")
        self.fails(BadText(0, 202), Wait.read, "* / " + " ".join(rows))
        self.assertEqual(len(Wait.read("* / " + " ".join(rows[:200])).answers), 200)

    def test_errors(self):
        for value in of_every_kind():
            fine = value in (["x"], ["a"]) or value is None
            if not fine:
                self.fails(BadWait("asked"), Wait, value, value)
                self.fails(BadWait("asked"), Wait, value, ["h"])
            if not fine or value is None:
                self.fails(BadWait("answers"), Wait, ["l"], value)
                self.fails(BadWait("answers"), Wait, None, value)
                self.fails(BadWait("answers"), Wait, MANY, value)
                self.fails(BadWait("answers"), Wait.again, value)
        for value in (["l", "l"], ["l", "L"], "l", ["a.b.c.d.e.f.g"], {"l"}, {"l": 1}):
            self.fails(BadWait("asked"), Wait, value, [])
            self.fails(BadWait("answers"), Wait, None, value)
            self.fails(BadWait("answers"), Wait.again, value)

    def test_many_labels(self):
        self.assertEqual(len(Wait(MANY[:200], MANY[1:]).asked), 200)
        self.fails(TooMany("labels", 200), Wait, MANY, ["h"])
        self.fails(TooMany("labels", 200), Wait, ["h"], MANY)
        self.fails(TooMany("labels", 200), Wait, None, MANY)
        self.fails(TooMany("labels", 200), Wait.again, MANY)
