"""Written sayings: promise 23."""

import random
import unittest

from sumsaid.errors import InvalidWord, TooLarge
from sumsaid.notation import format_saying, parse_saying
from sumsaid.sayings import is_saying

NUMBERS = {str(number): number for number in range(-99, 100)}


def read_line(words, at, lines):
    """Reads a line by calls of itself, and returns where it ends; raises the number of what is not valid."""
    def take(low, high):
        nonlocal at
        if at >= len(words) or not low <= NUMBERS.get(words[at], 100) <= high:
            raise IndexError(at)
        at += 1
        return NUMBERS[words[at - 1]]

    name = words[at] if at < len(words) else None
    many = {"not": 1, "there": 1, "both": 2}.get(name)
    if many:
        at += 1
        named = []
        for _ in range(many):
            at = read_line(words, at, lines)
            named.append(len(lines) - 1)
        lines.append((name, *named))
        return at
    if name not in ("below", "rest"):
        raise IndexError(at)
    at += 1
    factors = []
    while at < len(words) and words[at] != ";" and len(factors) < 6:
        factors.append(take(-9, 9))
    if at >= len(words) or words[at] != ";":
        raise IndexError(at)
    at += 1
    if name == "below":
        lines.append((name, tuple(factors), take(-99, 99)))
    else:
        modulus = take(1, 12)
        lines.append((name, tuple(factors), modulus, take(0, modulus - 1)))
    return at


def read_plainly(text):
    """The saying of a text, or the number of the first word that is not valid, or TooLarge."""
    words = text.split(" ")
    lines = []
    try:
        end = read_line(words, 0, lines)
    except IndexError as error:
        return error.args[0]
    if end < len(words):
        return end
    return tuple(lines) if len(lines) <= 40 else TooLarge


def parsed(text):
    """What parse_saying does with a text, in the same way."""
    try:
        return parse_saying(text)
    except InvalidWord as error:
        return error.number
    except TooLarge:
        return TooLarge


def random_words(dice, depth):
    """The words of a saying."""
    if depth == 0 or dice.random() < 0.25:
        factors = [str(dice.randint(-9, 9)) for _ in range(dice.randint(0, 6))]
        if dice.random() < 0.5:
            return ["below"] + factors + [";", str(dice.randint(-99, 99))]
        modulus = dice.randint(1, 12)
        return ["rest"] + factors + [";", str(modulus), str(dice.randrange(modulus))]
    name = dice.choice(("not", "there", "both", "both"))
    words = [name] + random_words(dice, depth - 1)
    return words + random_words(dice, depth - 1) if name == "both" else words


class Format(unittest.TestCase):
    def test_each_line(self):
        self.assertEqual(format_saying((("below", (2, -1), 5),)), "below 2 -1 ; 5")
        self.assertEqual(format_saying((("below", (), -99),)), "below ; -99")
        self.assertEqual(format_saying((("rest", (0, 1), 12, 11),)), "rest 0 1 ; 12 11")
        self.assertEqual(format_saying((("below", (), 0), ("not", 0))), "not below ; 0")
        self.assertEqual(format_saying((("below", (), 0), ("there", 0))), "there below ; 0")

    def test_the_order_of_both(self):
        lines = (("below", (1,), 0), ("rest", (1,), 2, 1), ("not", 0))
        self.assertEqual(format_saying(lines + (("both", 1, 2),)), "both rest 1 ; 2 1 not below 1 ; 0")
        self.assertEqual(format_saying(lines + (("both", 2, 1),)), "both not below 1 ; 0 rest 1 ; 2 1")

    def test_each_use_is_written(self):
        self.assertEqual(format_saying((("below", (1,), 0), ("both", 0, 0))), "both below 1 ; 0 below 1 ; 0")

    def test_only_what_the_last_line_says(self):
        self.assertEqual(format_saying((("below", (1,), 0), ("below", (1,), 1))), "below 1 ; 1")


class Parse(unittest.TestCase):
    def test_example(self):
        self.assertEqual(parse_saying("there both below 2 -1 ; 5 rest 0 1 ; 3 1"),
                         (("below", (2, -1), 5), ("rest", (0, 1), 3, 1), ("both", 0, 1), ("there", 2)))

    def test_layout(self):
        lines = (("below", (), 1), ("below", (), 1), ("not", 1), ("both", 0, 2), ("below", (), 1), ("both", 3, 4))
        self.assertEqual(parse_saying("both both below ; 1 not below ; 1 below ; 1"), lines)

    def test_bounds(self):
        self.assertEqual(parse_saying("below 9 -9 0 1 2 3 ; 99"), (("below", (9, -9, 0, 1, 2, 3), 99),))
        self.assertEqual(parse_saying("below ; -99"), (("below", (), -99),))
        self.assertEqual(parse_saying("rest ; 12 11"), (("rest", (), 12, 11),))
        self.assertEqual(parse_saying("rest ; 1 0"), (("rest", (), 1, 0),))
        for text, number in (("below 10 ; 0", 1), ("below -10 ; 0", 1), ("below 1 -10 ; 0", 2), ("below ; 100", 2),
                             ("below ; -100", 2), ("rest ; 0 0", 2), ("rest ; 13 0", 2), ("rest ; -1 0", 2),
                             ("rest ; 4 4", 3), ("rest ; 4 -1", 3), ("rest ; 12 12", 3)):
            self.assertEqual(parsed(text), number, text)

    def test_how_integers_are_written(self):
        for word in ("-0", "00", "05", "-05", "+5", "5.0", "", "-", "--5", "5-", "1_0", "0x1", "five", "5\t", "\n5", "005",
                     "-00", ";;", "5;", " "):
            with self.assertRaises(InvalidWord) as caught:
                parse_saying("below 1 ; " + word)
            self.assertEqual(caught.exception.number, 3, word)
        self.assertEqual(parse_saying("below 0 ; 0"), (("below", (0,), 0),))

    def test_a_seventh_factor(self):
        self.assertEqual(parsed("below 1 1 1 1 1 1 1 ; 0"), 7)
        self.assertEqual(parsed("both below ; 0 rest 1 1 1 1 1 1 0 ; 2 1"), 11)

    def test_missing_words(self):
        for text, number in (("", 0), ("not", 1), ("both below ; 1", 4), ("below", 1), ("below 1", 2), ("below 1 ;", 3),
                             ("below 1 1 1 1 1 1", 7), ("rest ; 3", 3), ("there", 1), ("both", 1)):
            self.assertEqual(parsed(text), number, text)

    def test_words_that_are_left_over(self):
        for text, number in (("below ; 1 1", 3), ("below ; 1 ", 3), ("below ; 1 below ; 1", 3), ("rest ; 3 2 2", 4),
                             ("not below ; 1  ", 4), ("both below ; 1 below ; 1 x", 7)):
            self.assertEqual(parsed(text), number, text)

    def test_empty_words_and_other_names(self):
        for text, number in ((" below ; 1", 0), ("below  ; 1", 1), ("below ;  1", 2), ("Below ; 1", 0), ("below\t; 1", 0),
                             ("below\n; 1", 0), ("; 1", 0), ("not not 3", 2), ("both below ; 1 ; 1", 4), ("belo ; 1", 0),
                             ("not  below ; 1", 1), ("\t", 0), ("not\tbelow ; 1", 0), ("below 1 ; 1\n", 3)):
            self.assertEqual(parsed(text), number, text)

    def test_more_than_40_lines(self):
        self.assertEqual(len(parse_saying("not " * 39 + "below ; 1")), 40)
        with self.assertRaises(TooLarge):
            parse_saying("not " * 40 + "below ; 1")
        with self.assertRaises(TooLarge):
            parse_saying("not " * 197 + "below ; 1")
        # What cannot be read is told first.
        self.assertEqual(parsed("not " * 60 + "below ; 1 1"), 63)
        self.assertEqual(parsed("not " * 60 + "below ;"), 62)
        self.assertEqual(parsed("not " * 199 + "below"), 200)

    def test_an_error_has_its_number(self):
        with self.assertRaises(InvalidWord) as caught:
            parse_saying("both below ; 1 nothing")
        self.assertEqual(caught.exception.number, 4)

    def test_texts_that_are_changed(self):
        dice = random.Random(41)
        more = ["", ";", "-0", "07", "12", "-9", "9", "0", "100", "below", "rest", "not", "both", "there", "\t", "1\n", "3"]
        wrong = 0
        for _ in range(4000):
            words = random_words(dice, dice.randint(0, 5))[:200]
            for _ in range(dice.choice((0, 1, 1, 2))):
                at = dice.randrange(len(words) + 1)
                words[at:at + dice.randint(0, 1)] = [dice.choice(more)] * dice.randint(0, 1)
            text = " ".join(words)
            expected = read_plainly(text)
            wrong += isinstance(expected, int)
            self.assertEqual(parsed(text), expected, text)
        self.assertTrue(500 < wrong < 3500)

    def test_there_and_back(self):
        dice = random.Random(42)
        for _ in range(500):
            text = " ".join(random_words(dice, 3))
            saying = parse_saying(text)
            self.assertTrue(is_saying(saying))
            self.assertEqual(format_saying(saying), text)


if __name__ == "__main__":
    unittest.main()
