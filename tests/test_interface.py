"""The interface: how calls stand in the list, how answers come back, and that nothing lasts."""

import unittest

from calling import SAMPLE, ask, joined, keep, load, put, refresh, take
from keptready.tables import answers

WORKED = [load(SAMPLE), keep(3, 1), put(7, 1, 1), put(-5, 0, 0), take(1), refresh(3)]
WORKED_ANSWERS = [[1, 2, 5, 4], [1, 2, 5], [1, 6, 1], [1, 7, 2], [1, 6, 3], [1, 3, 3, 3]]


class Interface(unittest.TestCase):
    def test_the_worked_line(self):
        self.assertEqual(ask(*WORKED), WORKED_ANSWERS)

    def test_each_answer_has_its_length_before_it(self):
        told = answers(joined(WORKED))
        expected = [4, 1, 2, 5, 4, 3, 1, 2, 5, 3, 1, 6, 1, 3, 1, 7, 2, 3, 1, 6, 3, 4, 1, 3, 3, 3]
        self.assertEqual(told, expected)

    def test_only_whole_numbers_in_a_plain_list_come_back(self):
        told = answers(joined(WORKED + [refresh(2), take(-1), load("columns"), keep()]))
        self.assertIs(type(told), list)
        self.assertEqual({type(number) for number in told}, {int})

    def test_the_list_handed_in_stays_as_it_was(self):
        line = joined(WORKED + [load("columns"), keep(2, 2, 0), put(1, 1), take(99), refresh(0)])
        before = list(line)
        answers(line)
        self.assertEqual(line, before)

    def test_what_comes_back_is_not_what_was_handed_in(self):
        line = joined(WORKED)
        told = answers(line)
        told.clear()
        self.assertEqual(line, joined(WORKED))
        self.assertEqual(ask(*WORKED), WORKED_ANSWERS)

    def test_a_second_time_is_as_the_first(self):
        line = joined(WORKED)
        self.assertEqual(answers(line), answers(line))
        self.assertEqual(answers([1, 0]), [1, -1])
        self.assertEqual(answers([3, 0]), [1, -1])

    def test_a_refused_calls_numbers_are_passed(self):
        told = ask(keep(1, 2, 3), put(1, 2, 3), take(4), refresh(0), load("columns a ;"), put(0, 0))
        self.assertEqual(told, [[-1], [-1], [-1], [-1], [1, 1, 0, 0], [1, 1, 1]])

    def test_empty_lists(self):
        self.assertEqual(ask(load(""), load("columns a ;"), keep(), put(0)), [[0, 3, 0], [1, 1, 0, 0], [1, 0, 0], [-4]])

    def test_the_longest_lists(self):
        told = ask(load([32] * 8192), load("columns a ;"), keep(*[1] * 2000), keep(*[0, 2] * 1000), put(0, *[0] * 2000))
        self.assertEqual(told, [[0, 1, 4096], [1, 1, 0, 0], [1, 1, 0], [-2], [-4]])

    def test_sixty_calls(self):
        told = ask(load("columns a ;"), keep(0, 1), *[put(1, 1), take(0)] * 20, *[refresh(0)] * 18)
        self.assertEqual(len(told), 60)
        self.assertEqual(told[-18:], [[1, 40, 1, 0]] + [[1, 0, 0, 0]] * 17)


if __name__ == "__main__":
    unittest.main()
