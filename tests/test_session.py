"""Whole sessions: rows put and taken again, all nine calls mixed, all changes used up, and nothing lasts."""

import unittest

from calling import SAMPLE, ages, ask, joined, keep, load, put, read, refresh, take, together, told_lines, was
from keptready.tables import answers

ALL = (0, 1, 2, 3)
CHANGERS = ("append", "extend", "insert", "pop", "remove", "clear", "sort", "reverse")
CHANGERS_BY_SIGNS = ("__setitem__", "__delitem__", "__iadd__", "__imul__")


def refuse(*given):
    raise AssertionError("what is handed in is changed")


# A list that can be looked at as any other, and not be changed for a while either.
FixedList = type("FixedList", (list,), {name: refuse for name in CHANGERS + CHANGERS_BY_SIGNS})


class ARowPutAndTakenAgain(unittest.TestCase):
    """Promise 5: it leaves no trace in what is brought up to date, wherever keep and refresh stand."""

    def answers_now(self, *calls):
        seen = [read(grouping, 0) for grouping in ALL]
        return ask(load(SAMPLE), *calls, *[refresh(grouping) for grouping in ALL], *seen)[-4:]

    def setUp(self):
        self.without = self.answers_now(keep(*ALL))

    def check(self, *calls):
        self.assertEqual(self.answers_now(*calls), self.without)

    def test_kept_ahead(self):
        for row in ((9, 9, 9), (9, 0, 0), (0, 0, 1), (-5, 0, 0), (-11, 1, 0)):
            self.check(keep(*ALL), put(*row), take(5))

    def test_kept_between(self):
        self.check(put(9, 9, 9), keep(*ALL), take(5))
        self.check(keep(0, 3), put(9, 0, 0), keep(*ALL), take(5))

    def test_kept_behind(self):
        self.check(put(9, 9, 9), take(5), keep(*ALL))
        self.check(keep(3), put(9, 0, 1), take(5), keep(*ALL))

    def test_refreshed_between(self):
        self.check(keep(*ALL), put(9, 9, 9), *[refresh(grouping) for grouping in ALL], take(5))
        self.check(keep(*ALL), put(9, 0, 0), refresh(3), refresh(0), take(5))

    def test_refreshed_behind_and_once_more(self):
        self.check(keep(*ALL), put(9, 1, 1), take(5), refresh(1), refresh(2), refresh(1))

    def test_again_and_again(self):
        self.check(keep(*ALL), *[put(9, 9, 9), put(8, 9, 9), take(5), refresh(3), take(5), refresh(1)] * 8)

    def test_a_row_taken_and_put_again(self):
        # A row that comes back stands last; that no answer tells.
        for place, row in enumerate(((5, 0, 0), (2, 0, 1), (4, 1, 0), (-1, 1, 0), (1, 0, 0))):
            self.check(keep(*ALL), take(place), put(*row))
            self.check(keep(*ALL), take(place), refresh(3), refresh(2), put(*row))

    def test_what_was_kept_or_refreshed_between_tells_the_row(self):
        seen = [read(1, 2), read(2, 1), ages(), was(1, 1), was(2, 1)]
        told = ask(load(SAMPLE), keep(1), put(9, 9, 9), keep(1, 2), take(5), *seen)
        self.assertEqual(told[5], [1, 1, 2, 2] + told_lines([0, 8, 3], [1, 3, 2]))
        self.assertEqual(told[6], [1, 2, 1, 3] + told_lines([0, 9, 4], [1, 2, 1], [9, 9, 1]))
        self.assertEqual(told[7], [2, 1, 2, 2, 2, 1, 3])
        self.assertEqual(told[8], [1] + told_lines([0, 8, 3], [1, 3, 2], [9, 9, 1]))
        self.assertEqual(told[9], [1] + told_lines([0, 8, 3], [1, 3, 2]))


# All nine calls, each with what it answers: first in small, then refusals between, then a second table.
MIXED = [
    (ages(), [-1]), (was(0, 0), [-1]), (load("columns a, b ; row 1, 1 : 1 ; row 1, 2 : 2 ; ask a ;"), [1, 2, 2, 1]),
    (ages(), [0]), (together(), [0, 0]), (read(0, 0), [1, -1, 0, 2, 1, 3, 2]), (was(0, 1), [1, 1, 1, 3, 2]),
    (keep(1, 3), [1, 2, 3]), (read(0, 0), [1, 1, 0, 1, 1, 3, 2]), (read(2, 0), [1, 3, 0, 2, 2, 1, 1, 1, 2, 2, 1]),
    (put(5, 2, 2), [1, 3, 1]), (put(6, 2, 2), [1, 4, 2]), (ages(), [2, 1, 2, 1, 3, 2, 2]),
    (together(), [3, 2, 1, 3, 1, 3, -1, 2]), (read(1, 1), [1, -1, 0, 4, 2, 1, 3, 2, 2, 11, 2]),
    (read(1, 2), [1, 1, 2, 1, 1, 1, 3, 2]), (was(1, 1), [1, 2, 1, 3, 2, 2, 5, 1]), (was(3, 1), [-9]),
    (refresh(3), [1, 2, 1, 3]), (together(), [2, 2, 1, -1, 2, 3, -1, 0]), (read(1, 1), [1, 3, 0, 3, 2, 1, 3, 2, 2, 11, 2]),
    (read(1, 2), [1, 1, 2, 1, 1, 1, 3, 2]), (take(4), [-3]), (take(0), [1, 3, 3]), (refresh(2), [-5]),
    (ages(), [2, 1, 3, 1, 3, 1, 3]), (keep(4), [-2]), (keep(0, 3), [1, 2, 4]), (ages(), [2, 0, 0, 1, 3, 1, 3]),
    (read(0, 0), [1, 0, 0, 1, 1, 13, 3]), (read(0, 1), [1, 0, 0, 1, 1, 13, 3]),
    (read(2, 1), [1, 3, 1, 3, 2, 1, 1, 1, 2, 13, 3]), (put(1, 1, 10), [-4]), (put(-13, 7, 7), [1, 4, 4]),
    (refresh(0), [1, 1, 1, 1]), (read(0, 0), [1, 0, 0, 1, 1, 0, 4]), (together(), [2, 2, 0, -1, 0, 3, -1, 2]),
    (was(4, 2), [1, 2, 2, 13, 3, 7, -13, 1]), (was(4, 4), [-2]), (was(5, 4), [-9]), (read(4, -1), [-2]),
    (read(3, -1), [-8]), (load("columns a ; row 10 : 1 ;"), [0, 7, 16]), (ages(), [2, 0, 0, 1, 3, 2, 3]),
    (was(0, 0), [1, 1, 3, 2]), (load("columns x ; row 3 : -4 ; row 3 : 4 ;"), [1, 1, 2, 0]), (ages(), [0]),
    (was(1, 0), [-9]), (was(0, 1), [1, 1, 3, 0, 2]), (refresh(0), [-5]), (keep(0, 1), [1, 2, 2]), (take(1), [1, 1, 1]),
    (take(0), [1, 0, 2]), (together(), [3, 2, 0, 1, 1, 1, -1, 2]), (refresh(1), [1, 2, 1, 0]),
    (read(0, 0), [1, 1, 0, 0, 0]), (read(0, 2), [1, 1, 0, 0, 0]), (ages(), [2, 0, 2, 1, 1, 0, 0]),
    (was(1, 1), [1, 1, 3, -4, 1]), (refresh(0), [1, 2, 1, 0]),
]


class AllNineCalls(unittest.TestCase):
    def setUp(self):
        self.calls = [call for call, _ in MIXED]

    def test_60_calls(self):
        self.assertEqual(len(MIXED), 60)
        self.assertEqual({call[0] for call in self.calls}, set(range(9)))
        for place, (told, (call, expected)) in enumerate(zip(ask(*self.calls), MIXED)):
            self.assertEqual(told, expected, f"call {place}: {call}")

    def test_the_list_handed_in_is_the_same_behind_and_all_the_while(self):
        line = FixedList(joined(self.calls))
        told = answers(line)
        self.assertEqual(line, joined(self.calls))
        self.assertEqual(told, joined([len(expected)] + expected for _, expected in MIXED))

    def test_a_second_time_is_as_the_first(self):
        first = answers(joined(self.calls))
        answers(joined(self.calls[:20]))
        self.assertEqual(answers(joined(self.calls)), first)
        self.assertEqual(answers(ages()), [1, -1])

    def test_each_beginning_is_answered_alike(self):
        for how_many in range(1, 61):
            self.assertEqual(ask(*self.calls[:how_many]), [expected for _, expected in MIXED[:how_many]])


class AllChangesUsedUp(unittest.TestCase):
    def test_40_changes_and_what_is_refused_behind(self):
        changes = [put(1, 9, 9), take(5)] * 20
        behind = [put(1, 1, 1), take(0), put(1, 10), take(5), ages(), together(), read(3, 39), read(3, 40), was(39, 0),
                  was(40, 0), was(41, 0), refresh(3), ages(), together(), read(1, 0), keep(1), put(0, 0, 0)]
        told = ask(load(SAMPLE), keep(1, 3), *changes, *behind)
        now = told_lines([0, 0, 6, 2], [0, 1, 2, 1], [1, 0, 3, 2])
        self.assertEqual(told[40:42], [[1, 6, 39], [1, 5, 40]])
        self.assertEqual(told[42:], [
            [-7], [-7], [-4], [-3], [2, 1, 40, 2, 3, 40, 3], [41, 2, 1, 3, 1, 3, -1, 40], [1, -1, 0, 5] + now,
            [1, 3, 40, 3] + now, [1, 1, 12, 6], [1, 1, 11, 5], [-9], [1, 40, 1, 3], [2, 1, 40, 2, 3, 0, 3],
            [40, 2, 1, -1, 40, 3, -1, 0], [1, 3, 0, 3] + told_lines([0, 8, 3], [1, 3, 2]), [1, 1, 2], [-7],
        ])

    def test_a_second_load_holds_40_changes_again(self):
        twenty = [put(1, 1, 1), take(5)] * 10
        told = ask(load(SAMPLE), *twenty, load(SAMPLE), *twenty, was(20, 0), was(21, 0), put(1, 1, 1), keep(0), ages())
        self.assertEqual(told[42:], [[1, 1, 11, 5], [-9], [1, 6, 21], [1, 1, 1], [1, 0, 0, 1]])


if __name__ == "__main__":
    unittest.main()
