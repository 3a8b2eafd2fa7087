"""Promise 24: the known fields, row for row."""

import unittest

from coveredcells.known import announcing, dekker, looking, onebit, peterson, turning
from tests import locks

BY_THREADS = {onebit: locks.onebit, turning: locks.turning, looking: locks.looking, announcing: locks.announcing}


def texts(field):
    """Return the lines of the text of a field, those of a thread in one string."""
    return field.text().replace("\nthread\n", "|").replace("\n", ", ").split("|")


class KnownTest(unittest.TestCase):
    def test_of_the_document(self):
        self.assertEqual([len(field) for field in (onebit(3), peterson())], [3, 2])
        self.assertEqual(peterson().cells, ("a", "b", "turn"))
        self.assertEqual(onebit(2).programs[0].text().split("\n"),
                         ["rest 1", "write a 1 2", "read b 0>3 2", "inside 4", "write a 0 0"])

    def test_onebit(self):
        self.assertEqual(texts(onebit(1)), ["cells a", "rest 1, write a 1 2, inside 3, write a 0 0"])
        self.assertEqual(texts(onebit(3)), [
            "cells a b c",
            "rest 1, write a 1 2, read b 0>3 2, read c 0>4 3, inside 5, write a 0 0",
            "rest 1, write b 1 2, read a 0>5 3, write b 0 4, read a 0>1 4, read c 0>6 5, inside 7, write b 0 0",
            "rest 1, write c 1 2, read a 0>5 3, write c 0 4, read a 0>1 4, read b 0>8 6, write c 0 7, read b 0>1 7, "
            "inside 9, write c 0 0"])

    def test_peterson(self):
        self.assertEqual(texts(peterson()), [
            "cells a b turn",
            "rest 1, write a 1 2, write turn 1 3, read b 0>5 4, read turn 0>5 3, inside 6, write a 0 0",
            "rest 1, write b 1 2, write turn 0 3, read a 0>5 4, read turn 1>5 3, inside 6, write b 0 0"])

    def test_dekker(self):
        self.assertEqual(texts(dekker()), [
            "cells a b turn",
            "rest 1, write a 1 2, read b 0>7 3, read turn 0>2 4, write a 0 5, read turn 0>6 5, write a 1 2, inside 8, "
            "write turn 1 9, write a 0 0",
            "rest 1, write b 1 2, read a 0>7 3, read turn 1>2 4, write b 0 5, read turn 1>6 5, write b 1 2, inside 8, "
            "write turn 0 9, write b 0 0"])

    def test_turning(self):
        self.assertEqual(texts(turning(1)), ["cells turn", "rest 1, read turn 0>2 1, inside 3, write turn 0 0"])
        self.assertEqual(texts(turning(3)), [
            "cells turn", *[f"rest 1, read turn {me}>2 1, inside 3, write turn {(me + 1) % 3} 0" for me in range(3)]])

    def test_looking(self):
        for threads in range(1, 6):
            self.assertEqual(texts(looking(threads)), ["cells door"] + [
                "rest 1, read door 0>2 1, write door 1 3, inside 4, write door 0 0"] * threads)

    def test_announcing(self):
        self.assertEqual(texts(announcing(1)), ["cells a", "rest 1, write a 1 2, inside 3, write a 0 0"])
        self.assertEqual(texts(announcing(3)), [
            "cells a b c",
            "rest 1, write a 1 2, read b 0>3 2, read c 0>4 3, inside 5, write a 0 0",
            "rest 1, write b 1 2, read a 0>3 2, read c 0>4 3, inside 5, write b 0 0",
            "rest 1, write c 1 2, read a 0>3 2, read b 0>4 3, inside 5, write c 0 0"])

    def test_each_number_of_threads(self):
        for make, slow in BY_THREADS.items():
            for threads in range(1, 6):
                field = make(threads)
                self.assertEqual(field, slow(threads), (make, threads))
                self.assertEqual(len(field), threads)
                self.assertEqual(make(threads=threads), field)
        self.assertEqual((peterson(), dekker()), (locks.peterson(), locks.dekker()))
