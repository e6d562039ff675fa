"""Houses: named rows and promises about them."""

from stilewalks.books import check_book, put_steps
from stilewalks.errors import BadName, BadPromise, BadText, Broken, Here, NoName, NothingToRedo, NothingToUndo
from stilewalks.promises import against, is_name_in, is_promise
from stilewalks.scripts import backwards, check_row

LETTERS = "abcdefghijklmnopqrstuvwxyz"
LONGEST_NAME = 8
MOST_DIRECTIONS = 4


class House:
    """Named rows, and promises about them that hold at all times."""

    def __init__(self, r):
        self.r = r
        # Both are never changed, only replaced, so that deeds can keep those that were there.
        self.rows = {}
        self.vows = ()
        self.done = []
        self.undone = []

    def __eq__(self, other):
        return isinstance(other, House) and self.r == other.r and self.rows == other.rows and self.vows == other.vows

    def names(self):
        """The pairs of the names and their rows, ascending."""
        return tuple([(name, self.rows[name]) for name in sorted(self.rows)])

    def row_of(self, name):
        """The row with a name."""
        self.check_names((name,))
        return self.rows[name]

    def promises(self):
        """The promises, in their order."""
        return self.vows

    def put(self, name, row):
        """Gives a new name a row."""
        if not is_name(name):
            raise BadName(name)
        if name in self.rows:
            raise Here(name)
        check_row(self.r, row)
        self.turn_to(rows_with(self.rows, name, row), self.vows)

    def behind(self, name, one, other):
        """Gives a name the row of one name and then that of another one."""
        self.check_names((name, one, other))
        self.give(rows_with(self.rows, name, self.rows[one] + self.rows[other]))

    def around(self, name, one, other):
        """Gives a name the row of one name, that of another one, and that of the first undone."""
        self.check_names((name, one, other))
        ahead = self.rows[one]
        self.give(rows_with(self.rows, name, ahead + self.rows[other] + backwards(ahead)))

    def back(self, name):
        """Gives a name its row undone."""
        self.check_names((name,))
        self.give(rows_with(self.rows, name, backwards(self.rows[name])))

    def by_book(self, book):
        """Gives all names what a book puts for their rows."""
        check_book(self.r, book)
        self.give({name: put_steps(book, self.rows[name]) for name in self.rows})

    def leave(self, name):
        """Removes a name, and all promises with it."""
        self.check_names((name,))
        rows = {other: self.rows[other] for other in self.rows if other != name}
        self.turn_to(rows, tuple([promise for promise in self.vows if name not in promise[1:]]))

    def make(self, thing):
        """Adds a promise."""
        if not is_promise(self.rows, thing) or thing in self.vows:
            raise BadPromise(thing)
        self.check_promises(self.rows, (thing,))
        self.turn_to(self.rows, self.vows + (thing,))

    def drop(self, thing):
        """Removes a promise."""
        if thing not in self.vows:
            raise BadPromise(thing)
        self.turn_to(self.rows, tuple([promise for promise in self.vows if promise != thing]))

    def undo(self):
        """Takes back the last deed."""
        if not self.done:
            raise NothingToUndo()
        self.undone.append((self.rows, self.vows))
        self.rows, self.vows = self.done.pop()

    def redo(self):
        """Does again the deed that was taken back last."""
        if not self.undone:
            raise NothingToRedo()
        self.done.append((self.rows, self.vows))
        self.rows, self.vows = self.undone.pop()

    def copied(self):
        """Another house that tells the same, with the same deeds to undo and to redo."""
        house = House(self.r)
        house.rows, house.vows = self.rows, self.vows
        house.done, house.undone = list(self.done), list(self.undone)
        return house

    def text(self):
        """The text of the house."""
        lines = [f"hall {self.r}"]
        for name in sorted(self.rows):
            lines.append(" ".join(["row", name] + [str(step) for step in self.rows[name]]))
        for promise in self.vows:
            lines.append("promise " + " ".join(list(promise)))
        return "\n".join(lines)

    def is_same(self, thing):
        """Whether any value is a house with the same text."""
        return isinstance(thing, House) and thing.text() == self.text()

    def check_names(self, values):
        """Raises NoName for the first value that is no name of the house."""
        for name in values:
            if not is_name_in(self.rows, name):
                raise NoName(name)

    def check_promises(self, rows, vows):
        """Raises Broken for the first promise that would not hold with rows."""
        for promise in vows:
            certificate = against(self.r, rows, promise)
            if certificate is not None:
                raise Broken(promise, certificate)

    def give(self, rows):
        """The deed that gives names other rows, if all promises hold with them."""
        self.check_promises(rows, self.vows)
        self.turn_to(rows, self.vows)

    def turn_to(self, rows, vows):
        """Ends a deed with other rows and promises."""
        self.done.append((self.rows, self.vows))
        self.undone = []
        self.rows, self.vows = rows, vows


def is_name(thing):
    """Whether any value can be a name."""
    if not isinstance(thing, str) or not 1 <= len(thing) <= LONGEST_NAME:
        return False
    return all([letter in LETTERS for letter in thing])


def rows_with(rows, name, row):
    """A dict of rows with another row for a name."""
    others = {other: rows[other] for other in rows}
    others[name] = row
    return others


def read_house(text):
    """The house with a text."""
    if not isinstance(text, str):
        raise BadText(0)
    lines = text.split("\n")
    heads = [f"hall {r}" for r in range(1, MOST_DIRECTIONS + 1)]
    if lines[0] not in heads:
        raise BadText(1)
    house = House(heads.index(lines[0]) + 1)
    for number, line in enumerate(lines[1:], start=2):
        # Any text of a house is still one if it ends behind one of its lines, so each line is judged by those ahead.
        if not read_line(house, line.split(" ")):
            raise BadText(number)
    house.done = []
    return house


def read_line(house, words):
    """Adds what a line tells to a house; whether such a line can stand behind those ahead of it."""
    if words[0] == "row":
        return len(words) > 1 and read_row(house, words[1], words[2:])
    if words[0] != "promise":
        return False
    try:
        house.make(tuple(words[1:]))
    except (BadPromise, Broken):
        return False
    return True


def read_row(house, name, words):
    """Adds a row to a house, if its name and its words can stand behind the lines ahead."""
    steps = {str(step): step for i in range(1, house.r + 1) for step in (i, -i)}
    if house.vows != () or not is_name(name) or not all([word in steps for word in words]):
        return False
    if not all([other < name for other in house.rows]):
        return False
    house.put(name, tuple([steps[word] for word in words]))
    return True
