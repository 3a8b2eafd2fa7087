"""Promise 15: papers, and what is one."""

import copy
import random
import unittest

from coveredcells.papers import is_paper, paper
from tests.locks import (
    Walker, announcing, changed, dekker, drawn, endless, field_of, known, looking, merged, onebit, peterson,
    some_fields, straight, turning)

SOME = some_fields(4, 600)


def is_state(walker, key):
    """Tell whether a pair of tuples of integers is a state, by the words of point 5."""
    rows, worths = key
    return (len(rows) == len(walker.tables) and len(worths) == len(walker.cells)
            and all(0 <= row < len(table) for row, table in zip(rows, walker.tables))
            and all(worth >= 0 for worth in worths))


def judge(walker, table, clashes=0):
    """Tell whether a table is a paper, by the words of point 15, but for so many clashes."""
    everyone = set(walker.threads)
    for key, (rank, thread) in table.items():
        if not is_state(walker, key) or rank < 0 or thread not in everyone | {None}:
            return False
    if walker.start not in table:
        return False
    for state, (rank, named) in table.items():
        inside, resting = walker.sort(state, "inside"), walker.sort(state, "rest")
        behind = {thread: walker.step(state, thread) for thread in everyone}
        clashes -= len(inside) >= 2
        if not set(behind.values()) <= set(table) or clashes < 0:
            return False
        if inside:
            continue
        if resting != everyone and named not in everyone - resting:
            return False
        for thread, follower in behind.items():
            if walker.sort(follower, "inside"):
                continue
            if table[follower][0] > rank:
                return False
            if table[follower][0] == rank and table[follower][1] != named:
                return False
            if thread == named and table[follower][0] >= rank:
                return False
    return True


class PapersTest(unittest.TestCase):
    def told(self, field, table):
        """Return what is told of a table, which is held against the tests' own judge."""
        kept = copy.deepcopy(table)
        answer = is_paper(field, table)
        self.assertIs(answer, judge(Walker(field), table), (field.text(), table))
        self.assertEqual((table, list(table)), (kept, list(kept)))
        return answer

    def is_one(self, field, table, word=None):
        self.assertIs(type(table), dict, word)
        self.assertEqual(set(table), set(Walker(field).distances()), word)
        for state, pair in table.items():
            self.assertEqual({type(part) for part in (state, *state, pair)}, {tuple})
            self.assertEqual({type(number) for part in state for number in part} - {int}, set())
            rank, thread = pair
            self.assertTrue(type(rank) is int and rank >= 0, pair)
            self.assertTrue(thread is None or type(thread) is int and 0 <= thread < len(field), pair)
        self.assertIs(self.told(field, table), True, word)


class PaperTest(PapersTest):
    def test_of_the_document(self):
        self.assertEqual([is_paper(peterson(), paper(peterson())), paper(looking(2))], [True, None])

    def test_fields_that_are_safe_and_go_on(self):
        for field in (peterson(), dekker(), onebit(1), onebit(2), onebit(3), onebit(4), straight(1), looking(1),
                      turning(1), announcing(1)):
            self.is_one(field, paper(field), field.text())

    def test_fields_that_do_not(self):
        for field in (looking(2), looking(4), straight(2), straight(4), turning(2), turning(4), announcing(2),
                      announcing(4), endless(1), endless(4)):
            self.assertIsNone(paper(field), field.text())

    def test_not_safe_and_yet_it_goes_on(self):
        self.assertIsNone(paper(looking(3)))
        # A clash that only the last of many states is.
        late = [("rest", 1), ("read", "a", {0: 2}, 3), ("write", "a", 1, 1), ("write", "b", 1, 4), ("inside", 0)]
        self.assertIsNone(paper(field_of("ab", [late, [("rest", 1), ("read", "b", {1: 2}, 1), ("inside", 0)]])))

    def test_those_who_go_round_only_together(self):
        rows = [[("rest", 1), ("read", "a", {0: 2}, 1), ("write", "a", 1, 1), ("inside", 0)],
                [("rest", 1), ("read", "a", {1: 2}, 1), ("write", "a", 0, 1), ("inside", 0)]]
        self.assertIsNone(paper(field_of("a", rows)))

    def test_one_thread(self):
        field = straight(1)
        table = paper(field)
        self.is_one(field, table)
        self.assertEqual(set(table), {((0,), ()), ((1,), ())})
        self.assertIsNone(paper(endless(1)))
        rows = [("rest", 1), ("write", "a", 1, 2), ("read", "a", {1: 3}, 2), ("inside", 4), ("write", "a", 0, 0)]
        self.is_one(field_of("a", [rows]), paper(field_of("a", [rows])))

    def test_against_a_search(self):
        told = {False: 0, True: 0}
        for word, field, walker, states in SOME:
            outside = [state for state in states if not walker.sort(state, "inside")]
            clash = any(len(walker.sort(state, "inside")) > 1 for state in states)
            table = paper(field)
            self.assertEqual(table is None, clash or walker.goes_round(outside), word)
            if table is not None:
                self.is_one(field, table, word)
            told[table is None] += 1
        self.assertGreater(min(told.values()), 20, told)

    def test_changed_locks(self):
        told = {False: 0, True: 0}
        for word, field in {"peterson": peterson(), "dekker": dekker(), "onebit": onebit(2)}.items():
            for seed in range(80):
                other = changed(field, seed)
                walker = Walker(other)
                states = walker.distances()
                outside = [state for state in states if not walker.sort(state, "inside")]
                clash = any(len(walker.sort(state, "inside")) > 1 for state in states)
                table = paper(other)
                self.assertEqual(table is None, clash or walker.goes_round(outside), (word, seed))
                if table is not None:
                    self.is_one(other, table, (word, seed))
                told[table is None] += 1
        self.assertGreater(min(told.values()), 10, told)

    def test_new_and_equal(self):
        for make in (peterson, dekker, lambda: onebit(3)):
            field = make()
            text, table = field.text(), paper(field)
            self.assertEqual(table, paper(make()))
            table.clear()
            self.assertEqual(paper(field), paper(make()))
            self.assertEqual((field, field.text()), (make(), text))

    def test_names_of_parameters(self):
        table = paper(field=peterson())
        self.assertEqual(table, paper(peterson()))
        self.assertIs(is_paper(table=table, field=peterson()), True)

    def test_many_states(self):
        for field in (onebit(4), drawn(209, 4, 4, 14), drawn(377, 4, 4, 14)):
            table = paper(field)
            if table is not None:
                self.is_one(field, table)


GOOD = {"peterson": peterson(), "dekker": dekker(), "onebit 2": onebit(2), "onebit 3": onebit(3),
        "onebit 1": onebit(1), "straight": straight(1), "turning": turning(1)}
# Those with so few states that each one can be changed in many ways.
FEW = {word: field for word, field in GOOD.items() if word != "onebit 3"}


class IsPaperTest(PapersTest):
    def test_the_empty_dict(self):
        for word, field in known(5).items():
            self.assertIs(self.told(field, {}), False, word)

    def test_a_state_taken_out(self):
        for word, field in FEW.items():
            table = paper(field)
            for state in table:
                less = {key: pair for key, pair in table.items() if key != state}
                self.assertIs(self.told(field, less), False, (word, state))

    def test_ranks_doubled_and_raised(self):
        for word, field in GOOD.items():
            table = paper(field)
            for change in (lambda rank: 2 * rank, lambda rank: rank + 1, lambda rank: rank * 10 ** 25 + 7):
                other = {state: (change(rank), thread) for state, (rank, thread) in table.items()}
                self.assertIs(self.told(field, other), True, word)
            flat = {state: (0, thread) for state, (_, thread) in table.items()}
            self.assertIs(self.told(field, flat), len(table) == 2, word)

    def test_lists_for_pairs(self):
        for word, field in GOOD.items():
            table = {state: list(pair) for state, pair in paper(field).items()}
            self.assertIs(self.told(field, table), True, word)
            table[field.start()] = [-1, None]
            self.assertIs(self.told(field, table), False, word)

    def test_one_rank_otherwise(self):
        told = {False: 0, True: 0}
        for word, field in FEW.items():
            table = paper(field)
            for state, (rank, thread) in table.items():
                for other in {0, rank + 1, rank - 1, rank + 1000}:
                    told[self.told(field, {**table, state: (other, thread)})] += 1
                self.assertIs(self.told(field, {**table, state: (-1, thread)}), False, (word, state))
        self.assertGreater(min(told.values()), 50, told)

    def test_one_thread_otherwise(self):
        told = {False: 0, True: 0}
        for word, field in FEW.items():
            table = paper(field)
            for state, (rank, _) in table.items():
                for other in (None, *range(len(field))):
                    told[self.told(field, {**table, state: (rank, other)})] += 1
                # No thread of the field, also where a thread is inside or all are at rest.
                for other in (-1, len(field), 10 ** 29, -10 ** 29):
                    self.assertIs(self.told(field, {**table, state: (rank, other)}), False, (word, state))
        self.assertGreater(min(told.values()), 50, told)

    def test_where_a_thread_is_inside_any_pair_will_do(self):
        field = peterson()
        table = paper(field)
        for state in table:
            if field.inside(state):
                for pair in ((0, None), (10 ** 20, None), (7, 0), (0, 1), [3, 1]):
                    self.assertIs(self.told(field, {**table, state: pair}), True, state)

    def test_where_all_rest_a_thread_may_be_named(self):
        # Its step, too, makes the rank less, unless it comes inside at once.
        field = onebit(2)
        table = paper(field)
        still = [state for state in table if len(field.resting(state)) == 2]
        self.assertEqual(still, [field.start()])
        rank = table[field.start()][0]
        for thread in (0, 1, None):
            self.assertIs(self.told(field, {**table, field.start(): (rank, thread)}), True)
        low = max(table[field.step(field.start(), thread)][0] for thread in (0, 1))
        for thread in (0, 1, None):
            self.assertIs(self.told(field, {**table, field.start(): (low, thread)}), False)
        table = {((0,), ()): (0, 0), ((1,), ()): (0, 0)}
        self.assertIs(self.told(straight(1), table), True)

    def test_a_rank_that_stays_needs_the_same_thread(self):
        # The rank stays by a step that leads to another state: the thread named there is to be the same.
        field = dekker()
        table = paper(field)
        stays = [(state, field.step(state, mover), mover) for state in table for mover in (0, 1)]
        stays = [(state, follower, mover) for state, follower, mover in stays
                 if follower != state and not field.inside(state) + field.inside(follower)
                 and table[follower] == table[state]]
        self.assertGreater(len(stays), 1)
        for state, follower, mover in stays:
            rank, thread = table[state]
            self.assertEqual(thread, 1 - mover)
            self.assertIs(self.told(field, {**table, state: (rank, mover)}), False)
            self.assertIs(self.told(field, {**table, follower: (rank, mover)}), False)

    def test_a_step_to_the_same_state(self):
        # Who waits is not to be named, whatever the rank; the one for whom it waits is.
        field = onebit(2)
        table = paper(field)
        loops = [(state, thread) for state in table for thread in (0, 1)
                 if field.step(state, thread) == state and not field.inside(state)]
        self.assertGreater(len(loops), 3)
        for state, thread in loops:
            self.assertEqual(table[state][1], 1 - thread)
            for rank in (table[state][0], 0, 10 ** 9):
                self.assertIs(self.told(field, {**table, state: (rank, thread)}), False)

    def test_a_state_put_in_that_no_run_leads_to(self):
        # Row 2 is a rest row that nobody meets, row 3 goes round for ever, row 4 leads to row 1.
        rows = [("rest", 1), ("inside", 0), ("rest", 1), ("read", "a", {}, 3), ("write", "a", 0, 1)]
        field = field_of("a", [rows])
        table = paper(field)
        self.assertEqual(set(table), {((0,), (0,)), ((1,), (0,))})
        self.assertIs(self.told(field, table), True)
        for pair in ((0, None), (0, 0), (5, None)):
            self.assertIs(self.told(field, {**table, ((2,), (0,)): pair}), True)
            # The states behind it are lacking.
            self.assertIs(self.told(field, {**table, ((2,), (1,)): pair}), False)
        for pair in ((0, None), (0, 0), (5, 0)):
            self.assertIs(self.told(field, {**table, ((3,), (0,)): pair}), False)
        for worth in (0, 1, 10 ** 29):
            self.assertIs(self.told(field, {**table, ((4,), (worth,)): (0, 0)}), True)
            self.assertIs(self.told(field, {**table, ((4,), (worth,)): (0, None)}), False)

    def test_all_states_there_are(self):
        # Also those that no run leads to can be judged by ranks and threads alone.
        field = onebit(2)
        walker = Walker(field)
        table = paper(field)
        others = [((one, two), (a, b)) for one in range(5) for two in range(len(walker.tables[1]))
                  for a in (0, 1) for b in (0, 1)]
        told = {False: 0, True: 0}
        for state in others:
            if state in table:
                continue
            for rank in (0, 1000):
                for thread in (None, 0, 1):
                    told[self.told(field, {**table, state: (rank, thread)})] += 1
        self.assertGreater(min(told.values()), 3, told)

    def test_a_clash_put_in(self):
        # A clash that no run leads to, and all states behind it, ranked by the steps that lead to them.
        field = onebit(2)
        walker = Walker(field)
        table = paper(field)
        insides = [[at for at, row in enumerate(rows) if row[0] == "inside"][0] for rows in walker.tables]
        queue = [(tuple(insides), (1, 1))]
        more = dict(table)
        for state in queue:
            waiting = sorted({0, 1} - walker.sort(state, "rest"))
            more[state] = (5000 - len(more), waiting[0] if waiting else None)
            queue += [follower for follower in (walker.step(state, 0), walker.step(state, 1))
                      if follower not in more and follower not in queue]
        self.assertGreater(len(queue), 2)
        self.assertIs(judge(walker, more, clashes=1), True)
        self.assertIs(self.told(field, more), False)
        # Without the clash, what was put in beside it may stay.
        del more[queue[0]]
        self.assertIs(self.told(field, more), True)

    def test_a_clash_is_none_of_its_states(self):
        field = straight(2)
        table = {state: (0, None) for state in Walker(field).distances()}
        self.assertIs(self.told(field, table), False)
        del table[((1, 1), ())]
        self.assertIs(self.told(field, table), False)
        field = looking(2)
        table = {state: (100 - sum(state[0]), None) for state in Walker(field).distances()}
        self.assertIs(self.told(field, table), False)

    def test_keys_that_are_no_states(self):
        for word, field in GOOD.items():
            table = paper(field)
            rows, worths = field.start()
            bad = [(rows + (0,), worths), (rows[1:], worths), (rows, worths + (0,)), ((), ()), ((-1,) + rows[1:], worths),
                   ((60,) + rows[1:], worths), (rows[:-1] + (len(field.programs[-1]),), worths), (worths, rows + (0, 0)),
                   ((10 ** 29,) + rows[1:], worths), ((-10 ** 29,) + rows[1:], worths)]
            if worths:
                bad += [(rows, worths[1:]), (rows, (-1,) + worths[1:]), (rows, worths[:-1] + (-10 ** 29,))]
            for key in bad:
                for thread in (None, 0):
                    self.assertIs(self.told(field, {**table, key: (0, thread)}), False, (word, key))
                    self.assertIs(self.told(field, {key: (0, thread)}), False, (word, key))

    def test_keys_that_are_no_states_but_lead_to_one_another(self):
        field = field_of("ab", [[("rest", 1), ("inside", 0)]])
        table = paper(field)
        self.assertEqual(table, {((0,), (0, 0)): (0, None), ((1,), (0, 0)): (0, None)})
        for worths in ((0,), (), (0, 0, 0), (0, -1), (-1, 0), (-10 ** 29, 0)):
            more = {((0,), worths): (0, None), ((1,), worths): (0, None)}
            self.assertIs(self.told(field, {**table, **more}), False, worths)
            more = {((0, 0), worths): (0, None), ((1, 0), worths): (0, None)}
            self.assertIs(self.told(field, {**table, **more}), False, worths)
        more = {((0,), (0, 10 ** 29)): (0, None), ((1,), (0, 10 ** 29)): (0, None)}
        self.assertIs(self.told(field, {**table, **more}), True)

    def test_tables_of_other_fields(self):
        for word, field in known(3).items():
            for other in (peterson(), dekker(), onebit(2), onebit(3), straight(1)):
                self.told(field, paper(other))

    def test_fields_that_have_no_paper(self):
        draw = random.Random(15)
        for word, field in {**known(3), **merged(2)}.items():
            states = list(Walker(field).distances())
            if paper(field) is None and len(states) < 400:
                for _ in range(5):
                    table = {state: (draw.randrange(9), draw.choice([None, *range(len(field))])) for state in states}
                    self.assertIs(self.told(field, table), False, word)

    def test_drawn_changes(self):
        draw = random.Random(14)
        told = {False: 0, True: 0}
        for word, field, walker, states in SOME:
            table = paper(field)
            if table is None:
                continue
            keys = list(table)
            for _ in range(30):
                other = {state: (3 * rank + 3, thread) for state, (rank, thread) in table.items()}
                for state in draw.sample(keys, min(len(keys), draw.randrange(1, 4))):
                    rank, thread = other[state]
                    other[state] = (rank + draw.randrange(-3, 4), draw.choice([thread, None, *range(len(field))]))
                told[self.told(field, other)] += 1
        self.assertGreater(min(told.values()), 100, told)
