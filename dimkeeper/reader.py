"""Texts, read word by word."""

from dimkeeper.checks import DIGITS, is_name
from dimkeeper.errors import BadText

MOST_DIGITS = 9


class Reader:
    """Stands at a word of a text; behind the last one stands None."""

    def __init__(self, text):
        if not isinstance(text, str):
            raise BadText(0, 0)
        self.words = text.split(" ")
        self.at = 0

    def due(self):
        """The word that is due."""
        return self.words[self.at] if self.at < len(self.words) else None

    def need(self, can_stand):
        """Refuses the word that is due unless it can stand."""
        if not can_stand:
            raise BadText(0, self.at)

    def take(self, can_stand):
        """The word that is due, if it can stand, and goes on."""
        self.need(can_stand)
        self.at += 1
        return self.words[self.at - 1]

    def take_mark(self, mark):
        """Goes on behind this word; None is the end of the text."""
        self.need(self.due() == mark)
        self.at += 1

    def take_name(self):
        """A name."""
        return self.take(is_name(self.due()))

    def take_new(self, names, most):
        """A name that is none of these, which are fewer than most."""
        return self.take(len(names) < most and is_name(self.due()) and self.due() not in names)

    def take_different(self, most, mark):
        """One or more different names, and the mark behind them."""
        names = [self.take_new((), most)]
        while self.due() != mark:
            names.append(self.take_new(names, most))
        self.take_mark(mark)
        return names

    def take_rising(self, order, mark):
        """One or more of the names of a dict to their places, by rising places, and the mark behind them."""
        taken = [self.take(self.due() in order)]
        while self.due() != mark:
            self.need(self.due() in order)
            taken.append(self.take(order[self.due()] > order[taken[-1]]))
        self.take_mark(mark)
        return taken

    def take_ascending(self, names, most, mark):
        """Names in ascending order, behind those that are told, at most so many, or any; and the mark behind them."""
        taken = list(names)
        while self.due() != mark:
            self.need((most is None or len(taken) < most) and is_name(self.due()))
            taken.append(self.take(not taken or self.due() > taken[-1]))
        self.take_mark(mark)
        return taken

    def take_number(self, least, most):
        """An integer from least to most."""
        word = self.due()
        self.need(is_number(word))
        return int(self.take(least <= int(word) <= most))


def is_number(word):
    """Whether a word, or None, is an integer as a text has it."""
    if not word or len(word) > MOST_DIGITS or (word[0] == "0" and len(word) > 1):
        return False
    return all([sign in DIGITS for sign in word])
