"""Written sayings: a line's name first, and then what it names."""

from sumsaid.errors import InvalidWord, TooLarge
from sumsaid.sayings import GREATEST_CONSTANT, GREATEST_FACTOR, GREATEST_MODULUS, MOST_FACTORS, MOST_LINES

DIGITS = "0123456789"
# How many lines a line names.
NAMED = {"not": 1, "there": 1, "both": 2}


def format_saying(saying):
    """The text of a saying."""
    words = []
    waiting = [len(saying) - 1]
    while len(waiting) > 0:
        line = saying[waiting.pop()]
        words.append(line[0])
        if line[0] in NAMED:
            waiting.extend(list(line[:0:-1]))
        else:
            words.extend([str(factor) for factor in line[1]])
            words.append(";")
            words.extend([str(number) for number in line[2:]])
    return " ".join(words)


def parse_saying(text):
    """The saying of a text."""
    reading = Reading(text.split(" "))
    saying = reading.read()
    if reading.at < len(reading.words):
        raise InvalidWord(reading.at)
    if len(saying) > MOST_LINES:
        raise TooLarge("the saying has too many lines")
    return saying


class Reading:
    """The words of a text, and how far they are read."""

    def __init__(self, words):
        self.words = words
        self.at = 0
        self.lines = []

    def read(self):
        """The lines of the saying that begins at the first word."""
        # The lines that are begun: the name, and the indices of the lines that it names, as far as they are read.
        begun = []
        while True:
            name = self.next_word()
            if name in NAMED:
                begun.append((name, []))
                self.at += 1
                continue
            self.lines.append(self.read_comparison(name))
            while len(begun) > 0:
                name, named = begun[-1]
                named.append(len(self.lines) - 1)
                if len(named) < NAMED[name]:
                    break
                begun.pop()
                self.lines.append((name,) + tuple(named))
            if len(begun) == 0:
                return tuple(self.lines)

    def next_word(self):
        """The next word, which stays the next one."""
        if self.at >= len(self.words):
            raise InvalidWord(self.at)
        return self.words[self.at]

    def read_comparison(self, name):
        """Reads a line `below` or `rest`."""
        if name != "below" and name != "rest":
            raise InvalidWord(self.at)
        self.at += 1
        factors = self.read_factors()
        if name == "below":
            return name, factors, self.read_number(-GREATEST_CONSTANT, GREATEST_CONSTANT)
        modulus = self.read_number(1, GREATEST_MODULUS)
        return name, factors, modulus, self.read_number(0, modulus - 1)

    def read_factors(self):
        """Reads factors and the semicolon behind them."""
        found = []
        while self.next_word() != ";":
            if len(found) == MOST_FACTORS:
                raise InvalidWord(self.at)
            found.append(self.read_number(-GREATEST_FACTOR, GREATEST_FACTOR))
        self.at += 1
        return tuple(found)

    def read_number(self, low, high):
        """Reads an integer that is at least `low` and at most `high`."""
        word = self.next_word()
        if not is_number(word) or not low <= int(word) <= high:
            raise InvalidWord(self.at)
        self.at += 1
        return int(word)


def is_number(word):
    """Whether a word is an integer in one or two digits, written in its one way."""
    digits = word[1:] if word.startswith("-") else word
    if not 1 <= len(digits) <= 2 or not all([digit in DIGITS for digit in digits]):
        return False
    if digits.startswith("0"):
        return word == "0"
    return True
