"""A book of sayings: promise 24."""

import random
import unittest

import sumsaid.book
from sumsaid.book import Book
from sumsaid.errors import NotFitting, SumsaidError, TooLarge, UnknownName
from sumsaid.functions import least_from, value
from sumsaid.patterns import pattern_of

EVEN = (("rest", (0, 1), 2, 0),)
ODD = (("rest", (0, 1), 2, 1),)
LESS = (("below", (-1, 1), 0),)
FLOOR = ((1,), 0)


class Keeping(unittest.TestCase):
    def test_names_and_sayings(self):
        book = Book()
        self.assertEqual(book.names(), [])
        self.assertIsNone(book.keep("b", EVEN, 1))
        self.assertIsNone(book.keep("a", LESS, 2))
        self.assertIsNone(book.keep("", ODD, 0))
        self.assertEqual(book.names(), ["", "a", "b"])
        self.assertEqual(book.saying("b"), (EVEN, 1))
        self.assertEqual(book.saying("a"), (LESS, 2))
        book.keep("b", ODD, 3)
        self.assertEqual(book.saying("b"), (ODD, 3))

    def test_the_list_of_names_is_new(self):
        book = Book()
        book.keep("a", EVEN, 1)
        book.names().append("b")
        self.assertEqual(book.names(), ["a"])

    def test_books_are_apart(self):
        first, second = Book(), Book()
        first.keep("a", EVEN, 1)
        self.assertEqual(second.names(), [])
        self.assertIs(second.undo(), False)

    def test_not_fitting(self):
        book = Book()
        book.keep("a", EVEN, 1)
        book.undo()
        for saying in ((), (("below", (1,), 100),), (("rest", (10,), 2, 0),), (("not", 0),), ((),), (("below",),),
                       tuple([("below", (), 0)] * 41)):
            with self.assertRaises(NotFitting):
                book.keep("b", saying, 1)
        # Nothing is changed by an error: what was undone can be done again.
        self.assertEqual(book.names(), [])
        self.assertIs(book.redo(), True)
        self.assertEqual(book.names(), ["a"])

    def test_unknown_name(self):
        book = Book()
        book.keep("a", EVEN, 1)
        book.keep("b", EVEN, 1)
        book.undo()
        for call in (lambda: book.drop("b"), lambda: book.saying("b"), lambda: book.least("b", FLOOR, (1,)),
                     lambda: book.solutions("b", (1,))):
            with self.assertRaises(UnknownName):
                call()
        self.assertIs(book.redo(), True)
        self.assertEqual(book.names(), ["a", "b"])
        self.assertTrue(issubclass(UnknownName, SumsaidError) and issubclass(NotFitting, SumsaidError))

    def test_drop(self):
        book = Book()
        book.keep("a", EVEN, 1)
        self.assertIsNone(book.drop("a"))
        self.assertEqual(book.names(), [])
        with self.assertRaises(UnknownName):
            book.drop("a")
        self.assertIs(book.undo(), True)
        self.assertEqual(book.saying("a"), (EVEN, 1))


class Undoing(unittest.TestCase):
    def test_nothing_to_undo(self):
        book = Book()
        self.assertIs(book.undo(), False)
        self.assertIs(book.redo(), False)
        book.keep("a", EVEN, 1)
        self.assertIs(book.redo(), False)
        self.assertIs(book.undo(), True)
        self.assertIs(book.undo(), False)
        self.assertIs(book.redo(), True)
        self.assertIs(book.redo(), False)
        self.assertEqual(book.names(), ["a"])

    def test_back_and_forth(self):
        book = Book()
        book.keep("a", EVEN, 1)
        book.keep("a", ODD, 1)
        book.drop("a")
        book.keep("b", LESS, 2)
        states = []
        while book.undo():
            states.append([(name, book.saying(name)) for name in book.names()])
        self.assertEqual(states, [[], [("a", (ODD, 1))], [("a", (EVEN, 1))], []])
        while book.redo():
            states.append([(name, book.saying(name)) for name in book.names()])
        self.assertEqual(states[4:], [[("a", (EVEN, 1))], [("a", (ODD, 1))], [], [("b", (LESS, 2))]])

    def test_a_change_discards_what_could_be_redone(self):
        book = Book()
        book.keep("a", EVEN, 1)
        book.keep("b", EVEN, 1)
        book.undo()
        book.keep("c", EVEN, 1)
        self.assertIs(book.redo(), False)
        self.assertEqual(book.names(), ["a", "c"])
        book.undo()
        book.drop("a")
        self.assertIs(book.redo(), False)

    def test_keeping_what_is_there_is_a_change(self):
        book = Book()
        book.keep("a", EVEN, 1)
        book.keep("b", ODD, 1)
        book.undo()
        book.keep("a", EVEN, 1)
        self.assertIs(book.redo(), False)
        self.assertIs(book.undo(), True)
        self.assertEqual(book.names(), ["a"])
        self.assertIs(book.undo(), True)
        self.assertEqual(book.names(), [])


class Making(unittest.TestCase):
    def setUp(self):
        self.book = Book()
        self.book.keep("a", EVEN, 1)

    def test_least_and_solutions(self):
        self.assertEqual([self.book.least("a", FLOOR, (x,)) for x in (-3, -2, 5)], [-2, -2, 6])
        self.book.keep("b", LESS, 1)
        self.assertEqual(self.book.least("b", ((), 3), (9,)), 3)
        self.assertIsNone(self.book.least("b", ((), 3), (3,)))
        self.assertEqual(self.book.solutions("a", (7,)), ((True, False), 0, (), (True, False)))
        self.assertEqual(self.book.solutions("b", (7,)), ((True,), 7, (), (False,)))
        self.book.keep("c", (("below", (1,), 4),), 0)
        self.assertEqual(self.book.least("c", ((), -3), ()), -3)
        self.assertEqual(self.book.solutions("c", ()), ((True,), 4, (), (False,)))

    def test_made_once(self):
        self.assertEqual(self.book.made(), 0)
        for x in range(5):
            self.book.least("a", FLOOR, (x,))
        self.assertEqual(self.book.made(), 1)
        self.book.solutions("a", (1,))
        self.assertEqual(self.book.made(), 1)

    def test_another_floor(self):
        self.book.least("a", FLOOR, (1,))
        self.book.least("a", ((1,), 1), (1,))
        self.assertEqual(self.book.made(), 2)
        # The same sum, but another tuple.
        self.assertEqual(self.book.least("a", ((1, 0), 0), (1,)), 2)
        self.assertEqual(self.book.made(), 3)
        self.book.least("a", FLOOR, (2,))
        self.book.least("a", tuple([(1,), 1]), (2,))
        self.assertEqual(self.book.made(), 3)

    def test_another_name(self):
        self.book.keep("b", EVEN, 1)
        self.book.least("a", FLOOR, (1,))
        self.book.least("b", FLOOR, (1,))
        self.assertEqual(self.book.made(), 2)
        self.book.drop("b")
        self.book.least("a", FLOOR, (1,))
        self.assertEqual(self.book.made(), 2)

    def test_another_saying_or_number_of_given_ones(self):
        self.book.least("a", FLOOR, (1,))
        self.book.keep("a", EVEN, 1)
        self.book.least("a", FLOOR, (1,))
        self.assertEqual(self.book.made(), 1)
        self.book.keep("a", ODD, 1)
        self.assertEqual(self.book.least("a", FLOOR, (1,)), 1)
        self.assertEqual(self.book.made(), 2)
        self.book.keep("a", ODD, 0)
        self.book.least("a", FLOOR, ())
        self.assertEqual(self.book.made(), 3)
        self.book.keep("a", EVEN, 1)
        self.book.least("a", FLOOR, (1,))
        self.assertEqual(self.book.made(), 4)

    def test_undo_and_redo_make_anew(self):
        self.book.least("a", FLOOR, (1,))
        self.book.keep("a", ODD, 1)
        self.book.undo()
        # There was another saying meanwhile, though nothing was asked of it.
        self.assertEqual(self.book.least("a", FLOOR, (1,)), 2)
        self.assertEqual(self.book.made(), 2)
        self.book.redo()
        self.assertEqual(self.book.least("a", FLOOR, (1,)), 1)
        self.assertEqual(self.book.made(), 3)

    def test_undo_of_what_was_kept_again(self):
        self.book.least("a", FLOOR, (1,))
        self.book.keep("a", EVEN, 1)
        self.book.undo()
        self.book.redo()
        self.book.least("a", FLOOR, (1,))
        self.assertEqual(self.book.made(), 1)

    def test_dropped_and_back(self):
        self.book.least("a", FLOOR, (1,))
        self.book.drop("a")
        self.book.undo()
        self.book.least("a", FLOOR, (1,))
        self.assertEqual(self.book.made(), 2)
        self.book.undo()
        self.book.keep("a", EVEN, 1)
        self.book.least("a", FLOOR, (1,))
        self.assertEqual(self.book.made(), 3)

    def test_what_is_too_large_is_not_made(self):
        made = sumsaid.book.least_from

        def too_large(saying, count, floor):
            raise TooLarge("for this test")

        sumsaid.book.least_from = too_large
        try:
            with self.assertRaises(TooLarge):
                self.book.least("a", FLOOR, (1,))
        finally:
            sumsaid.book.least_from = made
        self.assertEqual(self.book.made(), 0)
        self.assertEqual(self.book.least("a", FLOOR, (1,)), 2)
        self.assertEqual(self.book.made(), 1)


class Trials(unittest.TestCase):
    def test_many_changes(self):
        dice = random.Random(24)
        for _ in range(60):
            book, model = Book(), [{}]
            at, made, stored = 0, 0, {}
            for _ in range(40):
                name, way = dice.choice("abc"), dice.randrange(6)
                before = model[at]
                if way <= 1:
                    entry = (dice.choice((EVEN, ODD, LESS)), dice.choice((1, 1, 2)))
                    book.keep(name, entry[0], entry[1])
                    model[at + 1:] = [{**before, name: entry}]
                    at += 1
                elif way == 2 and name in before:
                    book.drop(name)
                    model[at + 1:] = [{other: before[other] for other in before if other != name}]
                    at += 1
                elif way == 3:
                    self.assertEqual(book.undo(), at > 0)
                    at = max(0, at - 1)
                elif way == 4:
                    self.assertEqual(book.redo(), at + 1 < len(model))
                    at = min(len(model) - 1, at + 1)
                stored = {key: True for key in stored if before.get(key[0]) == model[at].get(key[0])}
                self.assertEqual(book.names(), sorted(model[at]))
                if name in model[at]:
                    saying, count = model[at][name]
                    self.assertEqual(book.saying(name), (saying, count))
                    floor, given = dice.choice((FLOOR, ((2,), 0))), tuple([dice.randint(-9, 9) for _ in range(count)])
                    made += (name, floor) not in stored
                    stored[(name, floor)] = True
                    self.assertEqual(book.least(name, floor, given), value(least_from(saying, count, floor), given))
                    self.assertEqual(book.solutions(name, given), pattern_of(saying, given))
                self.assertEqual(book.made(), made)


if __name__ == "__main__":
    unittest.main()
