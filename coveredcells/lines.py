"""The lines of scripts: their forms, and where they can stand."""

from coveredcells.forms import is_name, is_written

# Lines that have a row of the program, behind the first one.
WITH_ROWS = ("inside", "put", "wait", "if")
# Lines whose block is written out once for each of some threads.
FOR_EACH = ("lower", "higher", "others")
WITH_ENDS = ("if", "loop", "lower", "higher", "others")
# Lines of one word.
BARE = ("rest", "inside", "else", "loop", "out", "again", "lower", "higher", "others", "end")


def is_cell(word, has_it):
    """Tell whether a word is a cell; has_it tells whether `.it` can stand there."""
    name, point, whose = word.partition(".")
    if point == "":
        return is_name(name)
    if not is_name(name) or len(name) > 7:
        return False
    return whose in ("me", "0", "1", "2", "3", "4") or (whose == "it" and has_it)


def is_value(word, has_it):
    """Tell whether a word is a value; has_it tells whether `it` can stand there."""
    return is_written(word) or word in ("me", "next") or (word == "it" and has_it)


def is_line(words, has_it):
    """Tell whether words are a line by their form."""
    if len(words) == 1:
        return words[0] in BARE
    if len(words) == 3:
        return words[0] == "put" and is_cell(words[1], has_it) and is_value(words[2], has_it)
    if len(words) != 4 or words[0] not in ("wait", "if") or words[2] not in ("is", "not"):
        return False
    return is_cell(words[1], has_it) and is_value(words[3], has_it)


def fits_in(word, blocks):
    """Tell whether a line that begins with a word can stand within blocks, by their words, the innermost last."""
    if word == "else":
        return len(blocks) > 0 and blocks[-1] == "if"
    if word == "out":
        return "loop" in blocks
    if word == "end":
        return len(blocks) > 0
    return word != "rest"


def can_stand(words, ahead, blocks):
    """Tell whether a line can stand behind one that begins with a word, which is None for the first line."""
    if ahead is None:
        return words == ["rest"]
    if ahead in ("rest", "loop") and words[0] not in WITH_ROWS:
        return False
    has_it = any([block in FOR_EACH for block in blocks])
    return is_line(words, has_it) and fits_in(words[0], blocks)


def wrong_line(lines):
    """Return the number, from 1 on, of the first of the lines of a script that cannot stand there, None if all can."""
    ahead = None
    blocks = []
    for number, line in enumerate(lines, start=1):
        words = line.split(" ")
        if not can_stand(words, ahead, blocks):
            return number
        ahead = words[0]
        if ahead in WITH_ENDS:
            blocks.append(ahead)
        elif ahead == "else":
            # It ends by the same `end`, but has no further `else`.
            blocks[-1] = ahead
        elif ahead == "end":
            blocks.pop()
    return len(lines) + 1 if blocks or ahead in ("rest", "loop") else None
