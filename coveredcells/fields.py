"""Fields: cells, and threads that follow programs over them."""

from coveredcells.errors import BadCell, BadField, BadText
from coveredcells.forms import cells_of, is_list, is_name, row_of
from coveredcells.programs import Program

MOST_CELLS = 5
MOST_THREADS = 5


def are_cells(value):
    """Tell whether any object is a list of cells of a field."""
    if not is_list(value) or len(value) > MOST_CELLS:
        return False
    return all([is_name(cell) for cell in value]) and len(set(value)) == len(value)


def fits(value, cells):
    """Tell whether any object is a program that reads and writes only these cells."""
    return isinstance(value, Program) and all([cell in cells for cell in value.used()])


def are_programs(value, cells):
    """Tell whether any object is a list of programs of a field with these cells."""
    if not is_list(value) or not 1 <= len(value) <= MOST_THREADS:
        return False
    return all([fits(program, cells) for program in value])


def threads_of(lines):
    """Return the lists of the rows of all threads that the lines of a text tell behind the first one."""
    if len(lines) == 1 or lines[1] != "thread":
        raise BadText(2)
    threads = []
    for number, line in enumerate(lines[1:], start=2):
        if line == "thread":
            threads.append([])
            continue
        row = row_of(line)
        if row is None:
            raise BadText(number)
        threads[-1].append(row)
    return threads


class Field:
    """An immutable field: its cells, and a program for each of its threads."""

    def __init__(self, cells, programs):
        if not are_cells(cells):
            raise BadField("cells")
        if not are_programs(programs, cells):
            raise BadField("programs")
        self._cells = tuple(sorted(cells))
        self._programs = tuple(programs)
        # Kept beside the programs, because a program copies its rows whenever it is asked for them.
        self._tables = tuple([program.rows() for program in self._programs])

    @property
    def cells(self):
        """Return the ascending tuple of the names of the cells."""
        return self._cells

    @property
    def programs(self):
        """Return the tuple of the programs of the threads."""
        return self._programs

    def __eq__(self, other):
        return isinstance(other, Field) and self._cells == other._cells and self._programs == other._programs

    def __len__(self):
        return len(self._programs)

    def start(self):
        """Return the first state."""
        return tuple([0 for _ in self._programs]), tuple([0 for _ in self._cells])

    def step(self, state, thread):
        """Return the state behind a step of a thread."""
        numbers = list(state[0])
        worths = list(state[1])
        row = self._tables[thread][numbers[thread]]
        numbers[thread] = row[-1]
        if row[0] == "write":
            worths[self._cells.index(row[1])] = row[2]
        if row[0] == "read":
            numbers[thread] = row[2].get(worths[self._cells.index(row[1])], row[3])
        return tuple(numbers), tuple(worths)

    def _standing(self, state):
        """Return the list of the rows at which the threads are."""
        return [table[number] for table, number in zip(self._tables, state[0])]

    def inside(self, state):
        """Return the ascending list of the threads that are inside."""
        return [thread for thread, row in enumerate(self._standing(state)) if row[0] == "inside"]

    def resting(self, state):
        """Return the ascending list of the threads that are at rest."""
        return [thread for thread, row in enumerate(self._standing(state)) if row[0] == "rest"]

    def writing(self, state):
        """Return the dict from the threads that are about to write a cell to these cells."""
        return {thread: row[1] for thread, row in enumerate(self._standing(state)) if row[0] == "write"}

    def merged(self, kept, gone):
        """Return the field without the cell that is gone, for which the cell that is kept stands in."""
        for name in (kept, gone):
            if not isinstance(name, str) or name not in self._cells:
                raise BadCell(name)
        if kept == gone:
            raise BadCell(gone)
        cells = [cell for cell in self._cells if cell != gone]
        return Field(cells, [program.renamed({gone: kept}) for program in self._programs])

    def text(self):
        """Return the text of the field."""
        lines = [" ".join(["cells", *self._cells])]
        for program in self._programs:
            lines.extend(["thread", program.text()])
        return "\n".join(lines)

    @classmethod
    def parse(cls, text):
        """Return the field that has the text."""
        lines = text.split("\n")
        cells = cells_of(lines[0])
        if cells is None:
            raise BadText(1)
        # All lines are looked at ahead of the first program, whose own errors come behind BadText.
        threads = threads_of(lines)
        return cls(cells, [Program(rows) for rows in threads])
