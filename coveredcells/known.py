"""Six known fields."""

from coveredcells.fields import Field
from coveredcells.forms import LETTERS
from coveredcells.programs import Program


def waiting(cell, worth, here):
    """Return the row with the number `here` that waits for a worth of a cell, with the next row behind it."""
    return "read", cell, {worth: here + 1}, here


def entered(rows):
    """Return rows with those behind them that are inside, and then write 0 into the cell that row 1 writes."""
    here = len(rows)
    return [*rows, ("inside", here + 1), ("write", rows[1][1], 0, 0)]


def onebit_rows(me, letters):
    """Return the rows of a thread of the one-bit field."""
    own = letters[me]
    rows = [("rest", 1), ("write", own, 1, 2)]
    for lower in letters[:me]:
        here = len(rows)
        rows.append(("read", lower, {0: here + 3}, here + 1))
        rows.append(("write", own, 0, here + 2))
        rows.append(("read", lower, {0: 1}, here + 2))
    for higher in letters[me + 1:]:
        rows.append(waiting(higher, 0, len(rows)))
    return entered(rows)


def onebit(threads):
    """Return the one-bit field for a number of threads."""
    letters = LETTERS[:threads]
    return Field(list(letters), [Program(onebit_rows(me, letters)) for me in range(threads)])


def peterson_rows(me):
    """Return the rows of a thread of the field of Peterson."""
    other = 1 - me
    return entered([
        ("rest", 1), ("write", LETTERS[me], 1, 2), ("write", "turn", other, 3), ("read", LETTERS[other], {0: 5}, 4),
        ("read", "turn", {me: 5}, 3)])


def peterson():
    """Return the field of Peterson."""
    return Field(["a", "b", "turn"], [Program(peterson_rows(0)), Program(peterson_rows(1))])


def dekker_rows(me):
    """Return the rows of a thread of the field of Dekker."""
    own = LETTERS[me]
    other = 1 - me
    return [
        ("rest", 1), ("write", own, 1, 2), ("read", LETTERS[other], {0: 7}, 3), ("read", "turn", {me: 2}, 4),
        ("write", own, 0, 5), ("read", "turn", {me: 6}, 5), ("write", own, 1, 2), ("inside", 8),
        ("write", "turn", other, 9), ("write", own, 0, 0)]


def dekker():
    """Return the field of Dekker."""
    return Field(["a", "b", "turn"], [Program(dekker_rows(0)), Program(dekker_rows(1))])


def turning_rows(me, threads):
    """Return the rows of a thread of the turning field."""
    return [("rest", 1), waiting("turn", me, 1), ("inside", 3), ("write", "turn", (me + 1) % threads, 0)]


def turning(threads):
    """Return the turning field for a number of threads."""
    return Field(["turn"], [Program(turning_rows(me, threads)) for me in range(threads)])


def looking(threads):
    """Return the looking field for a number of threads."""
    rows = [("rest", 1), waiting("door", 0, 1), ("write", "door", 1, 3), ("inside", 4), ("write", "door", 0, 0)]
    return Field(["door"], [Program(rows) for _ in range(threads)])


def announcing_rows(me, letters):
    """Return the rows of a thread of the announcing field."""
    rows = [("rest", 1), ("write", letters[me], 1, 2)]
    for other in letters[:me] + letters[me + 1:]:
        rows.append(waiting(other, 0, len(rows)))
    return entered(rows)


def announcing(threads):
    """Return the announcing field for a number of threads."""
    letters = LETTERS[:threads]
    return Field(list(letters), [Program(announcing_rows(me, letters)) for me in range(threads)])
