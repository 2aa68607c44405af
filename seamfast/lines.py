"""Reads lines of words, word by word."""

from seamfast.errors import BadLine
from seamfast.forms import DIGITS
from seamfast.reels import is_name


def first_word(lines, number):
    """The first word of the line with this number; None if there is no such line, or it is no string."""
    if number == len(lines) or not isinstance(lines[number], str):
        return None
    return lines[number].split(" ")[0]


def is_number(word, low, high):
    """Whether a word is an integer from low to high, without a sign or a leading zero."""
    if not 1 <= len(word) <= len(str(high)) or not all([sign in DIGITS for sign in word]):
        return False
    return (word == "0" or word[0] != "0") and low <= int(word) <= high


class LineWords:
    """The words of one line, which are taken one by one."""

    def __init__(self, lines, number):
        if number == len(lines) or not isinstance(lines[number], str):
            raise BadLine(number, 0)
        self.number = number
        self.words = lines[number].split(" ")
        self.taken = 0

    def take_any(self):
        """The next word, whatever it is."""
        if self.taken == len(self.words):
            raise BadLine(self.number, self.taken)
        self.taken += 1
        return self.words[self.taken - 1]

    def take_filled(self):
        """The next word, which must not be empty."""
        word = self.take_any()
        if word == "":
            raise BadLine(self.number, self.taken - 1)
        return word

    def take_name(self):
        """The next word, which must be a name."""
        word = self.take_any()
        if not is_name(word):
            raise BadLine(self.number, self.taken - 1)
        return word

    def take_number(self, low, high):
        """The next word, which must be an integer from low to high."""
        word = self.take_any()
        if not is_number(word, low, high):
            raise BadLine(self.number, self.taken - 1)
        return int(word)

    def take_one_of(self, words):
        """The next word, which must be one of these."""
        word = self.take_any()
        if word not in words:
            raise BadLine(self.number, self.taken - 1)
        return word

    def has_more(self):
        """Whether there is a word behind those that were taken."""
        return self.taken < len(self.words)

    def finish(self):
        """Judges that no word is left."""
        if self.has_more():
            raise BadLine(self.number, self.taken)
