"""The interface: how calls stand in the list, how answers come back, and that nothing lasts."""

import unittest

from calling import SAMPLE, ages, ask, joined, keep, load, put, read, refresh, take, together, was
from keptready.tables import answers

WORKED = [
    load(SAMPLE), keep(3, 1), put(7, 1, 1), put(-5, 0, 0), take(1), ages(), read(1, 0), read(1, 3), together(),
    refresh(3), ages(), read(1, 0), was(1, 2),
]
WORKED_ANSWERS = [
    [1, 2, 5, 4], [1, 2, 5], [1, 6, 1], [1, 7, 2], [1, 6, 3], [2, 1, 3, 2, 3, 3, 3],
    [1, -1, 0, 6, 2, 0, 1, 3, 1, 10, 3], [1, 1, 3, 2, 2, 0, 8, 3, 1, 3, 2], [6, 2, 1, -1, 3, 3, -1, 3],
    [1, 3, 3, 3], [2, 1, 3, 2, 3, 0, 3], [1, 3, 0, 3, 2, 0, 1, 3, 1, 10, 3], [1, 2, 0, 9, 4, 1, 9, 2],
]


class Interface(unittest.TestCase):
    def test_the_worked_line(self):
        self.assertEqual(ask(*WORKED), WORKED_ANSWERS)

    def test_each_answer_has_its_length_before_it(self):
        line = [0, len(SAMPLE)] + list(SAMPLE.encode()) + [1, 2, 3, 1, 2, 7, 2, 1, 1, 3, 1, 5, 6, 1, 0, 7, 4, 3, 8, 1, 0]
        expected = [4, 1, 2, 5, 4, 3, 1, 2, 5, 3, 1, 6, 1, 3, 1, 5, 2, 7, 2, 1, 2, 2, 3, 2, 3]
        expected += [11, 1, -1, 0, 5, 2, 0, 6, 2, 1, 10, 3, 8, 4, 2, 1, -1, 2, 3, -1, 2, 4, 1, 2, 2, 3, 4, 1, 1, 18, 6]
        self.assertEqual(answers(line), expected)

    def test_only_whole_numbers_in_a_plain_list_come_back(self):
        told = answers(joined(WORKED + [refresh(2), take(-1), load("columns"), keep(), ages(), together()]))
        self.assertIs(type(told), list)
        self.assertEqual({type(number) for number in told}, {int})

    def test_the_list_handed_in_stays_as_it_was(self):
        refused = [put(1, 1), take(99), refresh(1), read(4, 0), read(0, -1), was(9, 0), was(0, 4)]
        line = joined(WORKED + [load("columns"), keep(2, 2, 0)] + refused)
        before = list(line)
        answers(line)
        self.assertEqual(line, before)

    def test_what_comes_back_is_not_what_was_handed_in(self):
        line = joined(WORKED)
        told = answers(line)
        told.clear()
        self.assertEqual(line, joined(WORKED))
        self.assertEqual(ask(*WORKED), WORKED_ANSWERS)

    def test_a_second_time_is_as_the_first(self):
        line = joined(WORKED)
        self.assertEqual(answers(line), answers(line))
        self.assertEqual(answers([1, 0]), [1, -1])
        for call in (put(1, 1), take(0), refresh(0), ages(), read(0, 0), together(), was(0, 0)):
            self.assertEqual(answers(call), [1, -1])

    def test_a_refused_calls_numbers_are_passed(self):
        refused = [keep(1, 2, 3), put(1, 2, 3), take(4), refresh(0), ages(), read(0, 0), together(), was(0, 0)]
        told = ask(*refused, load("columns a ;"), put(0, 0))
        self.assertEqual(told, [[-1]] * 8 + [[1, 1, 0, 0], [1, 1, 1]])

    def test_empty_lists(self):
        self.assertEqual(ask(load(""), load("columns a ;"), keep(), put(0)), [[0, 3, 0], [1, 1, 0, 0], [1, 0, 0], [-4]])

    def test_the_longest_lists(self):
        told = ask(load([32] * 8192), load("columns a ;"), keep(*[1] * 2000), keep(*[0, 2] * 1000), put(0, *[0] * 2000))
        self.assertEqual(told, [[0, 1, 4096], [1, 1, 0, 0], [1, 1, 0], [-2], [-4]])

    def test_sixty_calls(self):
        told = ask(load("columns a ;"), keep(0, 1), *[put(1, 1), take(0)] * 20, *[refresh(0)] * 18)
        self.assertEqual(len(told), 60)
        self.assertEqual(told[-18:], [[1, 40, 1, 0]] + [[1, 0, 0, 0]] * 17)


if __name__ == "__main__":
    unittest.main()
