"""Scripts, which tell the programs of all threads of a field."""

from coveredcells.errors import BadCount, BadScript, BadThread
from coveredcells.fields import MOST_THREADS, Field
from coveredcells.forms import LETTERS, is_number
from coveredcells.lines import FOR_EACH, WITH_ENDS, WITH_ROWS, wrong_line
from coveredcells.programs import Program


def threads_of(word, me, threads):
    """Return the list of the threads for each of which a block is written out, by the word of its line."""
    if word == "lower":
        return list(range(me))
    if word == "higher":
        return list(range(me + 1, threads))
    return [thread for thread in range(threads) if thread != me]


def number_of(word, who):
    """Return the number that a word tells, by a dict from words to threads."""
    return who[word] if word in who else int(word)


def cell_of(word, who):
    """Return the name of a cell that a word tells, by a dict from words to threads."""
    name, point, whose = word.partition(".")
    return name + LETTERS[number_of(whose, who)] if point else name


def plain_line(words, who):
    """Return the words of a line with a cell's name and an integer in the place of what tells them."""
    if len(words) == 1:
        return words
    return [words[0], cell_of(words[1], who), *words[2:-1], number_of(words[-1], who)]


def ends_of(lines):
    """Return a dict from the indexes of the lines that have an `end` to those of their ends."""
    ends = {}
    begun = []
    for at, words in enumerate(lines):
        if words[0] in WITH_ENDS:
            begun.append(at)
        elif words[0] == "end":
            ends[begun.pop()] = at
    return ends


def written_out(lines, who, threads):
    """Return the plain lines, those within a `lower`, `higher` or `others` once for each thread."""
    ends = ends_of(lines)
    plain = []
    at = 0
    while at < len(lines):
        words = lines[at]
        if words[0] in FOR_EACH:
            block = lines[at + 1:ends[at]]
            for thread in threads_of(words[0], who["me"], threads):
                plain.extend(written_out(block, {**who, "it": thread}, threads))
            at = ends[at]
        else:
            plain.append(plain_line(words, who))
        at += 1
    return plain


def jumps_of(lines):
    """Return a dict from the indexes of plain lines to those of the lines at which it goes on, if not at the next one.

    That of an `if` is where it goes on if it is not so.
    """
    jumps = {}
    # For each line that has not ended its index, and those of the lines that go on behind its end.
    begun = []
    for at, words in enumerate(lines):
        word = words[0]
        if word == "again":
            jumps[at] = 1
        elif word == "if":
            begun.append([at, at])
        elif word == "loop":
            begun.append([at])
        elif word == "out":
            loops = [block for block in begun if lines[block[0]][0] == "loop"]
            loops[-1].append(at)
        elif word == "else":
            first = begun[-1][0]
            jumps[first] = at + 1
            begun[-1] = [first, at]
        elif word == "end":
            block = begun.pop()
            for place in block[1:]:
                jumps[place] = at + 1
            if lines[block[0]][0] == "loop":
                jumps[at] = block[0] + 1
    return jumps


def number_at(at, jumps, numbers):
    """Return the number of the first row that who comes to a line comes to, by the numbers of the lines with rows."""
    while at not in numbers:
        at = jumps.get(at, at + 1)
    return numbers[at]


def row_for(words, so, otherwise):
    """Return the row for a plain line, by the numbers of the rows that follow if it is so, and otherwise."""
    if words[0] in ("rest", "inside"):
        return words[0], so
    if words[0] == "put":
        return "write", words[1], words[2], so
    if words[2] == "is":
        return "read", words[1], {words[3]: so}, otherwise
    return "read", words[1], {words[3]: otherwise}, so


def rows_of(lines):
    """Return the list of the rows of the program that plain lines tell."""
    jumps = jumps_of(lines)
    places = [at for at, words in enumerate(lines) if at == 0 or words[0] in WITH_ROWS]
    numbers = {at: number for number, at in enumerate(places)}
    # Behind the last line row 0 follows.
    numbers[len(lines)] = 0
    rows = []
    for at in places:
        so = number_at(at + 1, jumps, numbers)
        # A line that waits has no jump, and goes on with itself.
        rows.append(row_for(lines[at], so, number_at(jumps.get(at, at), jumps, numbers)))
    return rows


def check_count(threads):
    """Raise BadCount with any object that is not a number of threads of a field."""
    if not is_number(threads, MOST_THREADS + 1) or threads == 0:
        raise BadCount(threads)


class Script:
    """An immutable script."""

    def __init__(self, text):
        lines = text.split("\n")
        wrong = wrong_line(lines)
        if wrong is not None:
            raise BadScript(wrong)
        self._text = text
        self._lines = [line.split(" ") for line in lines]

    def __eq__(self, other):
        return isinstance(other, Script) and self._text == other._text

    def text(self):
        """Return the text of the script."""
        return self._text

    def program(self, me, threads):
        """Return the program of a thread, if there are so many threads."""
        check_count(threads)
        if not is_number(me, threads):
            raise BadThread(me)
        who = {"me": me, "next": (me + 1) % threads}
        return Program(rows_of(written_out(self._lines, who, threads)))

    def field_of(self, threads):
        """Return the field of the programs of so many threads, with just the cells that they read or write."""
        check_count(threads)
        programs = [self.program(me, threads) for me in range(threads)]
        return Field(sorted({cell for program in programs for cell in program.used()}), programs)
