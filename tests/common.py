"""What the tests share: values of every kind, errors with their fields, random worlds and watches."""

import random
import unittest

from dimkeeper import errors
from dimkeeper.blurs import Blur
from dimkeeper.papers import Denial, Paper
from dimkeeper.tasks import Task
from dimkeeper.watches import Watch
from dimkeeper.worlds import World


class Thing:
    """An object of a class that the program does not know."""


def of_every_kind():
    """Values of every kind, made anew."""
    return [None, True, False, 0, 1, -1, 10 ** 5000, 1.0, 1.5, "", "x", "Bad", "a b", "a..b", "\u00e9", b"x", [], (),
            {}, [None], [[]], [()], [[], []], [["a"], "a"], ("a", 1), {"a": 1}, {1: "a"}, {"A": "a"}, {"a": ["a"]},
            {None: "a"}, {"x"}, Thing(), Thing, [Thing()], {"a": Thing()}, len, Paper("note"), Denial("note", []),
            World(["d"], [("s", "l", [["s"]])], ["s"]), Blur({"l": "l"}),
            Watch(["l"], ["d"], [("w", [["w"]])]), [True], [1], ["a", "a"], ["a", None], ["a", ["a"]]]


class Case(unittest.TestCase):

    def fails(self, error, call, *args, **more):
        """The call raises an error of the very class, with the same fields."""
        try:
            told = call(*args, **more)
        except errors.DimError as raised:
            self.assertIs(type(raised), type(error), (raised, vars(raised)))
            self.assertEqual(vars(raised), vars(error))
            return
        self.fail(f"{error!r} was not raised, but {told!r} was returned")

    def gives(self, told, call, *args, **more):
        """The call returns this, twice."""
        self.assertEqual(call(*args, **more), told)
        self.assertEqual(call(*args, **more), told)

    def same(self, values):
        """Each value is equal to none of the others, and to nothing of another kind."""
        for at, value in enumerate(values):
            for other_at, other in enumerate(values):
                self.assertEqual(value == other, at == other_at, (at, other_at))
                self.assertEqual(value != other, at != other_at, (at, other_at))
            for other in of_every_kind():
                if type(other) is not type(value):
                    self.assertFalse(value == other)
                    self.assertFalse(other == value)

    def reads(self, kind, value):
        """The text of a value is read back, and each of its beginnings lacks a word, or is a text, too."""
        text = str(value)
        back = kind.read(text)
        self.assertEqual(back, value)
        self.assertEqual(str(back), text)
        words = text.split(" ")
        for many in range(1, len(words)):
            part = " ".join(words[:many])
            try:
                self.assertEqual(str(kind.read(part)), part)
            except errors.BadText as error:
                self.assertEqual((error.line, error.word), (0, many), part)

    def bends(self, kind, text):
        """Whatever is done to a text, the word that is told cannot stand, and those ahead of it can."""
        words = text.split(" ")
        odd = ["", "a", "zz", ";", ",", "/", ":", "|", "0", "1", "01", "+1", "-1", "1234567890", "Z", "a.b", "broken",
               "\n", "a\n", "*"]
        for at in range(len(words) + 1):
            told = [words[:at] + [word] + words[at:] for word in odd]
            if at < len(words):
                told += [words[:at] + [word] + words[at + 1:] for word in odd]
                told += [words[:at] + words[at + 1:], words[:at] + [words[at]] + words[at:]]
                told += [words[:at] + words[at:at + 2][::-1] + words[at + 2:]]
            for bent in told:
                self.bent(kind, bent)

    def bent(self, kind, words):
        text = " ".join(words)
        try:
            self.assertEqual(str(kind.read(text)), text)
        except errors.BadText as error:
            words = text.split(" ")
            self.assertEqual(error.line, 0)
            self.assertLessEqual(error.word, len(words))
            ahead = " ".join(words[:error.word])
            if error.word:
                # What stands ahead is a text, or lacks just the word behind it.
                try:
                    self.assertEqual(str(kind.read(ahead)), ahead)
                except errors.BadText as other:
                    self.assertEqual(other.word, error.word, text)
            if error.word < len(words):
                for more in ("", " a", " ;", " 1"):
                    self.fails(errors.BadText(0, error.word), kind.read, " ".join(words[:error.word + 1]) + more)

    def refuses_texts(self, kind, text):
        """What is no string, what has blanks at its ends, and what is empty."""
        for value in of_every_kind():
            if not isinstance(value, str):
                self.fails(errors.BadText(0, 0), kind.read, value)
        many = len(text.split(" "))
        self.fails(errors.BadText(0, 0), kind.read, "")
        self.fails(errors.BadText(0, 0), kind.read, " ")
        self.fails(errors.BadText(0, 0), kind.read, " " + text)
        self.fails(errors.BadText(0, many), kind.read, text + " ")
        self.fails(errors.BadText(0, 1), kind.read, text.replace(" ", "  ", 1))
        self.fails(errors.BadText(0, 0), kind.read, text.split(" ")[0] + "\t")


def other_class(name, **told):
    """An object of another class that is called like one of the program, and has its attributes."""
    value = type(name, (), {})()
    vars(value).update(told)
    return value


def names(stem, many):
    return [f"{stem}{at}" for at in range(many)]


def random_world(chance, most_states=5, most_deeds=3, most_labels=3):
    states = names("s", chance.randint(1, most_states))
    chance.shuffle(states)
    deeds = names("d", chance.randint(1, most_deeds))
    chance.shuffle(deeds)
    labels = names("l", most_labels)
    rows = []
    for state in states:
        nexts = [chance.sample(states, chance.randint(1, min(2, len(states)))) for _ in deeds]
        rows.append((state, chance.choice(labels), nexts))
    return World(deeds, rows, chance.sample(states, chance.randint(1, min(2, len(states)))))


def random_watch(chance, labels, deeds, most_states=4, breaking=0.25):
    states = names("k", chance.randint(1, most_states))
    chance.shuffle(states)
    rows = []
    for state in states:
        rows.append((state, [["broken" if chance.random() < breaking else chance.choice(states) for _ in deeds]
                             for _ in labels]))
    return Watch(labels, deeds, rows)


def random_task(chance, **more):
    world = random_world(chance, **more)
    labels = sorted(world.labels)
    chance.shuffle(labels)
    deeds = list(world.deeds)
    chance.shuffle(deeds)
    blur = Blur({label: chance.choice(labels) for label in labels})
    watch = random_watch(chance, labels, deeds)
    standing = None
    if chance.random() < 0.5:
        stands = [(state, kept) for state in world for kept in watch]
        standing = chance.sample(stands, chance.randint(1, min(3, len(stands))))
    return Task(world, blur, watch, standing)


def chances(many):
    return [random.Random(number) for number in range(many)]
