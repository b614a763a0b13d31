"""A book of sayings under names, whose changes can be undone."""

from sumsaid.errors import NotFitting, UnknownName
from sumsaid.functions import least_from, value
from sumsaid.patterns import pattern_of
from sumsaid.sayings import is_saying


class Book:
    """Sayings under names, each with the number of its given numbers.

    found: the sayings, a tuple of one and its number of given numbers for each name;
    done, undone: the changes that can be undone and redone, each a name, what it had before, and what it
    has after it (None for nothing);
    stored: for a name a table of the functions that were made, by their floors.
    """

    def __init__(self):
        self.found = {}
        self.done = []
        self.undone = []
        self.stored = {}
        self.many_made = 0

    def keep(self, name, saying, count):
        """Keeps a saying under a name."""
        if not is_saying(saying):
            raise NotFitting("this is not a saying")
        self.change(name, (saying, count))

    def drop(self, name):
        """Takes a name and its saying out."""
        self.entry(name)
        self.change(name, None)

    def change(self, name, after):
        """Changes what a name has, so that it can be undone."""
        self.done.append((name, self.found.get(name), after))
        self.undone = []
        self.put(name, after)

    def put(self, name, entry):
        """Sets what a name has; functions that were made of something else are not used any more."""
        if entry == self.found.get(name):
            return
        self.stored[name] = {}
        if entry is None:
            del self.found[name]
        else:
            self.found[name] = entry

    def undo(self):
        """Takes the last change back; whether there was one."""
        if len(self.done) == 0:
            return False
        name, before, after = self.done.pop()
        self.undone.append((name, before, after))
        self.put(name, before)
        return True

    def redo(self):
        """Makes the change again that was taken back last; whether there was one."""
        if len(self.undone) == 0:
            return False
        name, before, after = self.undone.pop()
        self.done.append((name, before, after))
        self.put(name, after)
        return True

    def names(self):
        """The names, ascending."""
        return sorted(self.found)

    def saying(self, name):
        """The saying of a name, and the number of its given numbers."""
        return self.entry(name)

    def entry(self, name):
        """What a name has."""
        if name not in self.found:
            raise UnknownName("there is no saying with this name")
        return self.found[name]

    def least(self, name, floor, values):
        """The least solution that is not below the floor, or None."""
        saying, count = self.entry(name)
        functions = self.stored[name]
        if floor not in functions:
            functions[floor] = least_from(saying, count, floor)
            self.many_made += 1
        return value(functions[floor], values)

    def solutions(self, name, values):
        """The pattern of the solutions."""
        saying, _ = self.entry(name)
        return pattern_of(saying, values)

    def made(self):
        """How many functions were made."""
        return self.many_made
