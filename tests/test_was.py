"""The call was: a grouping's answer when there had been just so many changes."""

import unittest

from calling import SAMPLE, ages, ask, ask_loaded, keep, load, put, read, refresh, take, together, told_lines, was

FAR = 10 ** 18
ROWS = "columns a ; row 1 : 1 ; row 2 : 20 ; row 3 : 300 ;"
ONE, TWO, THREE = [1, 1, 1], [2, 20, 1], [3, 300, 1]


class Was(unittest.TestCase):
    def test_no_changes(self):
        told = ask_loaded(SAMPLE, was(0, 0), was(0, 1), was(0, 2), was(0, 3))
        self.assertEqual(told[0], [1] + told_lines([11, 5]))
        self.assertEqual(told[1], [1] + told_lines([0, 8, 3], [1, 3, 2]))
        self.assertEqual(told[2], [1] + told_lines([0, 9, 4], [1, 2, 1]))
        self.assertEqual(told[3], [1] + told_lines([0, 0, 6, 2], [0, 1, 2, 1], [1, 0, 3, 2]))

    def test_no_rows(self):
        told = ask_loaded("columns a, b ;", was(0, 0), was(0, 3), put(4, 1, 2), take(0), was(0, 0), was(1, 0), was(2, 0))
        self.assertEqual(told[:2] + told[4:], [[1, 0], [1, 0], [1, 0], [1, 1, 4, 1], [1, 0]])

    def test_each_count_up_to_now(self):
        # One row is taken from the middle, one from the front, one from the end, and others come between.
        changes = [take(1), put(4, 4), take(0), put(5, 3), take(2)]
        tables = [
            [ONE, TWO, THREE], [ONE, THREE], [ONE, THREE, [4, 4, 1]], [THREE, [4, 4, 1]], [[3, 305, 2], [4, 4, 1]],
            [THREE, [4, 4, 1]],
        ]
        for now in range(6):
            told = ask_loaded(ROWS, *changes[:now], *[was(then, 1) for then in range(now + 2)])[now:]
            self.assertEqual(told, [[1] + told_lines(*tables[then]) for then in range(now + 1)] + [[-9]])

    def test_all_rows_go_and_come_again(self):
        told = ask_loaded(ROWS, take(2), take(0), take(0), put(-1, 2), *[was(then, 1) for then in range(5)])
        tables = [[ONE, TWO, THREE], [ONE, TWO], [TWO], [], [[2, -1, 1]]]
        self.assertEqual(told[4:], [[1] + told_lines(*table) for table in tables])

    def test_a_row_put_again_in_place_of_one_of_its_group(self):
        told = ask_loaded("columns a ; row 1 : 5 ; row 1 : 7 ;", take(0), put(5, 1), take(0), *[was(n, 1) for n in range(4)])
        self.assertEqual(told[3:], [[1, 1, 1, 12, 2], [1, 1, 1, 7, 1], [1, 1, 1, 12, 2], [1, 1, 1, 5, 1]])

    def test_a_sum_of_zero_and_below(self):
        told = ask_loaded("columns a ; row 1 : 5 ;", put(-5, 1), put(-1000, 1), was(0, 1), was(1, 1), was(2, 0))
        self.assertEqual(told[2:], [[1, 1, 1, 5, 1], [1, 1, 1, 0, 2], [1, 1, -1000, 3]])

    def test_what_is_kept_has_no_part_in_it(self):
        changes = [put(9, 9), take(0), put(8, 2)]
        then = [was(n, g) for n in range(4) for g in (0, 1)]
        plain = ask_loaded(ROWS, *changes, *then)[3:]
        told = ask_loaded(ROWS, keep(0, 1), changes[0], refresh(1), changes[1], keep(1), changes[2], refresh(1), *then)[7:]
        self.assertEqual(told, plain)

    def test_40_changes(self):
        told = ask_loaded(ROWS, *[put(9, 9), take(3)] * 20, put(1, 1), was(39, 0), was(40, 0), was(41, 0))
        self.assertEqual(told[40:], [[-7], [1, 1, 330, 4], [1, 1, 321, 3], [-9]])

    def test_a_second_load_counts_anew(self):
        told = ask(load(SAMPLE), put(7, 1, 1), take(0), load(ROWS), was(0, 1), was(1, 1), take(1),
                   was(0, 1), was(1, 1), was(2, 1))
        self.assertEqual(told[4:6], [[1] + told_lines(ONE, TWO, THREE), [-9]])
        self.assertEqual(told[7:], [[1] + told_lines(ONE, TWO, THREE), [1] + told_lines(ONE, THREE), [-9]])

    def test_a_load_at_fault_does_not(self):
        told = ask(load(ROWS), take(0), load("columns a ; row"), was(1, 1), was(0, 1), was(2, 1))
        self.assertEqual(told[3:], [[1] + told_lines(TWO, THREE), [1] + told_lines(ONE, TWO, THREE), [-9]])

    def test_the_same_table_loaded_again_is_as_its_text_tells_it(self):
        told = ask(load(ROWS), take(0), put(1, 9), load(ROWS), was(0, 1), take(2), was(0, 1))
        self.assertEqual([told[4], told[6]], [[1] + told_lines(ONE, TWO, THREE)] * 2)


class Refusals(unittest.TestCase):
    def test_no_table(self):
        self.assertEqual(ask(was(0, 0), was(-1, -1), was(FAR, FAR)), [[-1]] * 3)

    def test_so_many_changes_there_have_not_been(self):
        told = ask_loaded(ROWS, was(-1, 0), was(0, 0), was(1, 0), put(1, 1), was(1, 0), was(2, 0), was(FAR, 0), was(-FAR, 0))
        self.assertEqual(told[:3], [[-9], [1, 1, 321, 3], [-9]])
        self.assertEqual(told[4:], [[1, 1, 322, 4], [-9], [-9], [-9]])

    def test_refused_changes_are_none(self):
        self.assertEqual(ask_loaded(ROWS, put(1, 10), take(3), was(1, 0), was(0, 0))[2:], [[-9], [1, 1, 321, 3]])

    def test_no_such_grouping(self):
        for columns, most in (("a", 1), ("a, b", 3), ("a, b, c", 7), ("a, b, c, d", 15)):
            told = ask_loaded(f"columns {columns} ;", was(0, most), was(0, most + 1), was(0, -1), was(0, FAR), was(0, -FAR))
            self.assertEqual(told, [[1, 0]] + [[-2]] * 4)

    def test_both_would_be_due(self):
        self.assertEqual(ask_loaded(ROWS, was(1, 2), was(-1, 2), was(-1, -1), was(FAR, -FAR)), [[-9]] * 4)

    def test_nothing_moves_behind_a_refusal(self):
        seen = [ages(), together(), read(1, 1), read(1, 0), was(1, 1), was(0, 1)]
        told = ask_loaded(ROWS, keep(0, 1), take(1), *seen, was(2, 1), was(-1, 1), was(1, 2), was(0, -1), was(2, 2), *seen)
        self.assertEqual(told[8:13], [[-9], [-9], [-2], [-2], [-9]])
        self.assertEqual(told[13:], told[2:8])


if __name__ == "__main__":
    unittest.main()
