"""The errors of the package."""

SHOWN_BELOW = 1000000000000


def shown(value):
    """Return a value as a message shows it, or dots in its place."""
    # Python refuses to write integers of many thousand figures, and an error may be made with any value.
    if isinstance(value, str):
        return value
    if isinstance(value, int) and abs(value) < SHOWN_BELOW:
        return str(value)
    return "..."


class CellError(ValueError):
    """Any error of the package."""

    def __init__(self, why=""):
        ValueError.__init__(self, shown(why))


class BadProgram(CellError):
    """A row is none of the four sorts, or the rows are too few or too many."""

    def __init__(self, row):
        CellError.__init__(self, f"row {shown(row)} cannot stand in a program")
        self.row = row


class NotOnce(CellError):
    """A way from a rest row on is inside twice, or rests again without having been inside."""

    def __init__(self, row):
        CellError.__init__(self, f"who begins at row {shown(row)} is perhaps not inside just once")
        self.row = row


class BadField(CellError):
    """The cells or the programs are not those of a field."""

    def __init__(self, place):
        CellError.__init__(self, f"the {shown(place)} are not those of a field")
        self.place = place


class BadCell(CellError):
    """Something is not a cell of the field, or not one that can be taken here."""

    def __init__(self, name):
        CellError.__init__(self, f"not a cell to take: {shown(name)}")
        self.name = name


class BadRun(CellError):
    """Something in a run is not a thread of the field."""

    def __init__(self, index):
        CellError.__init__(self, f"not a thread, at index {shown(index)} of the run")
        self.index = index


class BadCount(CellError):
    """Something is not a number of threads that can be asked for."""

    def __init__(self, count):
        CellError.__init__(self, f"not a number of threads: {shown(count)}")
        self.count = count


class BadThread(CellError):
    """Something is not a thread of the field."""

    def __init__(self, thread):
        CellError.__init__(self, f"not a thread: {shown(thread)}")
        self.thread = thread


class Enough(CellError):
    """A field has one thread alone, or as many cells as threads."""

    def __init__(self, number):
        CellError.__init__(self, f"the cells are enough: {shown(number)}")
        self.number = number


class BadSteps(CellError):
    """Something is not a number of steps that can be asked for."""

    def __init__(self, steps):
        CellError.__init__(self, f"not a number of steps: {shown(steps)}")
        self.steps = steps


class BadSeen(CellError):
    """Something cannot be what is seen of a field."""

    def __init__(self, index):
        CellError.__init__(self, f"not the worths of the cells, at index {shown(index)}")
        self.index = index


class BadText(CellError):
    """A line of a text cannot stand where it stands."""

    def __init__(self, line):
        CellError.__init__(self, f"line {shown(line)} of the text cannot stand there")
        self.line = line


class BadScript(CellError):
    """A line of a script cannot stand where it stands."""

    def __init__(self, line):
        CellError.__init__(self, f"line {shown(line)} of the script cannot stand there")
        self.line = line


class NoDeed(CellError):
    """There is nothing to undo, or to do again."""

    def __init__(self):
        CellError.__init__(self, "there is nothing to undo, or to do again")
