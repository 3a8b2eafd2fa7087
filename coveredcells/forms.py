"""The forms of names, worths and rows, and of the lines that tell them."""

# A cell of a thread is called by its letter, or by a name with the letter behind it.
LETTERS = "abcde"


def is_list(value):
    """Tell whether any object is a list; a tuple may stand for one."""
    return isinstance(value, (list, tuple))


def is_whole(value):
    """Tell whether any object is an integer from 0 on, as a worth is."""
    return isinstance(value, int) and not isinstance(value, bool) and value >= 0


def is_name(value):
    """Tell whether any object is a name."""
    if not isinstance(value, str) or len(value) > 8:
        return False
    return value.isascii() and value.isalpha() and value.islower()


def is_number(value, many):
    """Tell whether any object is the number of one of so many rows."""
    return is_whole(value) and value < many


def are_cases(value, many):
    """Tell whether any object is a dict from worths to numbers of so many rows."""
    if not isinstance(value, dict):
        return False
    return all([is_whole(worth) and is_number(number, many) for worth, number in value.items()])


def is_row(value, many):
    """Tell whether any object is a row in a list of so many rows."""
    if not is_list(value) or len(value) < 2 or not isinstance(value[0], str):
        return False
    if value[0] in ("rest", "inside"):
        return len(value) == 2 and is_number(value[1], many)
    if len(value) != 4 or not is_name(value[1]) or not is_number(value[3], many):
        return False
    if value[0] == "write":
        return is_whole(value[2])
    return value[0] == "read" and are_cases(value[2], many)


def copied(row):
    """Return a row anew, as a tuple, its cases in ascending order of the worths."""
    if row[0] == "read":
        cases = row[2]
        return "read", row[1], {worth: cases[worth] for worth in sorted(cases)}, row[3]
    return tuple(row)


def followers(row):
    """Return the list of the numbers of the rows that can follow a row."""
    if row[0] == "read":
        return list(row[2].values()) + [row[3]]
    return [row[-1]]


def line_of(row):
    """Return the line that tells a row."""
    if row[0] == "read":
        cases = [f"{worth}>{number}" for worth, number in row[2].items()]
        return " ".join(["read", row[1], *cases, str(row[3])])
    return " ".join([str(part) for part in row])


def is_written(word):
    """Tell whether a word is an integer from 0 on, written as Python writes it."""
    return word.isascii() and word.isdigit() and (word == "0" or not word.startswith("0"))


def cases_of(words):
    """Return the cases that words tell, None if they are no cases with ascending worths."""
    cases = {}
    last = -1
    for word in words:
        worth, _, number = word.partition(">")
        if not is_written(worth) or not is_written(number) or int(worth) <= last:
            return None
        last = int(worth)
        cases[last] = int(number)
    return cases


def row_of(line):
    """Return the row that a line tells, whatever rows there are; None if it is no row by its form."""
    words = line.split(" ")
    if not is_written(words[-1]):
        return None
    number = int(words[-1])
    if words[0] in ("rest", "inside"):
        return (words[0], number) if len(words) == 2 else None
    if len(words) < 3 or not is_name(words[1]):
        return None
    if words[0] == "write" and len(words) == 4 and is_written(words[2]):
        return "write", words[1], int(words[2]), number
    if words[0] == "read":
        cases = cases_of(words[2:-1])
        return ("read", words[1], cases, number) if cases is not None else None
    return None


def cells_of(line):
    """Return the list of the cells that a line tells, None if it does not tell ascending different names."""
    words = line.split(" ")
    cells = words[1:]
    if words[0] != "cells" or not all([is_name(cell) for cell in cells]):
        return None
    return cells if cells == sorted(set(cells)) else None
