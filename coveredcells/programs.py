"""Programs: the rows that a thread follows."""

from coveredcells.errors import BadProgram, BadText, NotOnce
from coveredcells.forms import copied, followers, is_list, is_row, line_of, row_of

FEWEST_ROWS = 2
MOST_ROWS = 60


def wrong_row(rows):
    """Return the number that BadProgram has for any object in the place of the rows, None if it is right."""
    if not is_list(rows):
        return 0
    for number, row in enumerate(rows):
        if not is_row(row, len(rows)) or (number == 0 and row[0] != "rest"):
            return number
    return None if FEWEST_ROWS <= len(rows) <= MOST_ROWS else len(rows)


def is_once(rows, first):
    """Tell whether who begins at a rest row is inside once at most, and just once if it rests again."""
    # A row counts anew for each number of times inside: that is all that matters of the way to it.
    met = set()
    ahead = [(number, 0) for number in followers(rows[first])]
    while ahead:
        place = ahead.pop()
        if place in met:
            continue
        met.add(place)
        number, times = place
        row = rows[number]
        if row[0] == "rest":
            if times == 0:
                return False
            continue
        if row[0] == "inside":
            times += 1
            if times > 1:
                return False
        ahead.extend([(follower, times) for follower in followers(row)])
    return True


def called(row, names):
    """Return a row with another name of its cell, if it has a cell and the dict has a name for it."""
    if row[0] in ("read", "write"):
        return row[0], names.get(row[1], row[1]), row[2], row[3]
    return row


class Program:
    """An immutable program, a list of rows."""

    def __init__(self, rows):
        wrong = wrong_row(rows)
        if wrong is not None:
            raise BadProgram(wrong)
        self._rows = tuple([copied(row) for row in rows])
        for number, row in enumerate(self._rows):
            if row[0] == "rest" and not is_once(self._rows, number):
                raise NotOnce(number)

    def __eq__(self, other):
        return isinstance(other, Program) and self._rows == other._rows

    def __len__(self):
        return len(self._rows)

    def rows(self):
        """Return the list of the rows, as tuples."""
        return [copied(row) for row in self._rows]

    def used(self):
        """Return the ascending list of the cells that the rows read or write."""
        return sorted({row[1] for row in self._rows if row[0] in ("read", "write")})

    def renamed(self, names):
        """Return the program with other names of cells, by a dict from names to names."""
        return Program([called(row, names) for row in self._rows])

    def text(self):
        """Return the text of the program, a line for each row."""
        return "\n".join([line_of(row) for row in self._rows])

    @classmethod
    def parse(cls, text):
        """Return the program that has the text."""
        rows = []
        for number, line in enumerate(text.split("\n"), start=1):
            row = row_of(line)
            if row is None:
                raise BadText(number)
            rows.append(row)
        return cls(rows)
