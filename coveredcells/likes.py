"""Programs that do the same: the least one of them, and answers that part two that do not."""

from coveredcells.fields import Field
from coveredcells.forms import followers
from coveredcells.programs import Program


def step_at(row):
    """Return the step that is done at a row, as a tuple."""
    return row[:2] if row[0] == "read" else row[:-1]


def led(row, goals):
    """Return a row with other numbers for those that follow, and without the cases that lead where `other` does."""
    other = goals[row[-1]]
    if row[0] == "read":
        cases = {worth: goals[number] for worth, number in row[2].items() if goals[number] != other}
        return "read", row[1], cases, other
    return (*step_at(row), other)


def form_of(row):
    """Return a tuple that is the same for rows with the same step and the same numbers that follow."""
    cases = tuple(row[2].items()) if row[0] == "read" else ()
    return step_at(row), cases, row[-1]


def kinds_of(rows):
    """Return a list of a number for each row, the same for rows from which on the same steps are done."""
    kinds = [0 for _ in rows]
    many = 1
    while True:
        forms = [form_of(led(row, kinds)) for row in rows]
        numbers = {}
        for form in forms:
            numbers.setdefault(form, len(numbers))
        if len(numbers) == many:
            return kinds
        kinds = [numbers[form] for form in forms]
        many = len(numbers)


def met_from(first, rows):
    """Return the list of the numbers of the rows that are met from one on, in the order in which they are."""
    met = [first]
    at = 0
    while at < len(met):
        row = rows[met[at]]
        for number in followers(row):
            if number not in met:
                met.append(number)
        at += 1
    return met


def least(program):
    """Return the least program of those that are alike to a program."""
    rows = program.rows()
    kinds = kinds_of(rows)
    # Any row of a kind will do: they lead to the same kinds.
    kept = {kind: led(row, kinds) for kind, row in zip(kinds, rows)}
    met = met_from(kinds[0], kept)
    numbers = {kind: number for number, kind in enumerate(met)}
    return Program([led(kept[kind], numbers) for kind in met])


def least_field(field):
    """Return the field with the least program of each thread, and the same cells."""
    return Field(field.cells, [least(program) for program in field.programs])


def next_reads(one, other, pair):
    """Return the pair of rows at which two lists of rows, from a pair of rows on, read the same cell or are parted.

    Returns None if they do the same steps for ever without reading.
    """
    met = {}
    while pair not in met:
        met[pair] = True
        here, there = one[pair[0]], other[pair[1]]
        if here[0] == "read" or step_at(here) != step_at(there):
            return pair
        pair = (here[-1], there[-1])
    return None


def answers_to(here, there):
    """Return the ascending list of the worths that two rows that read have cases for, and one that none has."""
    worths = sorted(set([*here[2], *there[2]]))
    none = 0
    for worth in worths:
        if worth == none:
            none += 1
    return [*worths, none]


def parting(one, other):
    """Return None if two programs are alike, else a list of answers, as short as possible, that part them."""
    first, second = one.rows(), other.rows()
    # The pairs of rows to which answers lead, and a shortest list of these.
    answers = {(0, 0): []}
    front = [(0, 0)]
    while front:
        found = []
        for begin in front:
            pair = next_reads(first, second, begin)
            if pair is None:
                continue
            here, there = first[pair[0]], second[pair[1]]
            if step_at(here) != step_at(there):
                return answers[begin]
            for worth in answers_to(here, there):
                follower = (here[2].get(worth, here[3]), there[2].get(worth, there[3]))
                if follower not in answers:
                    answers[follower] = [*answers[begin], worth]
                    found.append(follower)
        front = found
    return None


def are_alike(one, other):
    """Tell whether two programs are alike."""
    return parting(one, other) is None
