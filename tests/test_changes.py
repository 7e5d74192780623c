"""The calls put and take, and every refusal: its edge, its turn, and that nothing moves behind it."""

import unittest

from calling import SAMPLE, ages, ask, ask_loaded, keep, load, put, read, refresh, rows_text, take, together, was

FAR = 10 ** 18
TWO = "columns a, b ; row 1, 2 : 3 ; row 4, 5 : 6 ;"


class PutAndTake(unittest.TestCase):
    def test_rows_and_changes_are_counted(self):
        told = ask_loaded(TWO, put(1, 0, 0), take(0), take(0), take(0), put(1, 0, 0))
        self.assertEqual(told, [[1, 3, 1], [1, 2, 2], [1, 1, 3], [1, 0, 4], [1, 1, 5]])

    def test_a_row_put_stands_behind_all_others(self):
        # The row that is taken shows in how many groups of city there are.
        told = ask_loaded(TWO, put(1, 9, 9), take(2), keep(1), put(1, 9, 9), take(0), take(0), keep(1, 3))
        self.assertEqual(told[2], [1, 1, 2])
        self.assertEqual(told[6], [1, 2, 3])
        told = ask_loaded(TWO, put(1, 4, 0), take(0), take(1), keep(1, 3))
        self.assertEqual(told[3], [1, 2, 2])

    def test_rows_behind_one_that_is_taken_move_up(self):
        text = "columns a ; row 1 : 1 ; row 2 : 1 ; row 2 : 1 ; row 3 : 1 ;"
        self.assertEqual(ask_loaded(text, take(1), take(1), keep(1))[2], [1, 1, 2])
        self.assertEqual(ask_loaded(text, take(0), take(2), keep(1))[2], [1, 1, 1])
        self.assertEqual(ask_loaded(text, take(3), take(0), keep(1))[2], [1, 1, 1])
        self.assertEqual(ask_loaded(text, take(0), take(0), keep(1))[2], [1, 1, 2])

    def test_numbers_at_their_bounds(self):
        told = ask_loaded(TWO, put(1000, 0, 9), put(-1000, 9, 0), put(0, 0, 0))
        self.assertEqual(told, [[1, 3, 1], [1, 4, 2], [1, 5, 3]])

    def test_a_load_begins_the_changes_anew(self):
        told = ask(load(TWO), put(1, 1, 1), keep(0), load("columns a ; row 1 : 1 ;"), refresh(0), put(1, 1), keep(2))
        self.assertEqual(told[3:], [[1, 1, 1, 0], [-5], [1, 2, 1], [-2]])


class Refusals(unittest.TestCase):
    def test_all_calls_but_load_ask_for_a_table(self):
        calls = [keep(), keep(99), put(1, 1), put(FAR), take(0), take(-1), refresh(0), refresh(FAR), ages(), together()]
        calls += [read(0, 0), read(-1, 0), read(0, -1), read(FAR, -FAR), was(0, 0), was(-1, 0), was(0, -1), was(FAR, FAR)]
        self.assertEqual(ask(*calls), [[-1]] * len(calls))

    def test_a_load_at_fault_brings_no_table(self):
        calls = [keep(0), put(1, 1), take(0), refresh(0), ages(), read(0, 0), together(), was(0, 0)]
        self.assertEqual(ask(load("columns a"), *calls), [[0, 3, 9]] + [[-1]] * 8)

    def test_no_such_grouping(self):
        for columns, most in (("a", 1), ("a, b", 3), ("a, b, c", 7), ("a, b, c, d", 15)):
            told = ask_loaded(f"columns {columns} ;", keep(0, most), keep(most + 1), keep(-1), keep(FAR), keep(0, -FAR))
            self.assertEqual(told, [[1, 2, 0], [-2], [-2], [-2], [-2]])

    def test_one_wrong_grouping_among_right_ones(self):
        told = ask_loaded(TWO, keep(1), keep(0, 4, 2), refresh(0), refresh(2), refresh(1))
        self.assertEqual(told, [[1, 1, 2], [-2], [-5], [-5], [1, 0, 0, 2]])

    def test_rows_that_do_not_fit(self):
        wrong = [
            put(1), put(1, 1), put(1, 1, 1, 1), put(1, 1, 10), put(1, 10, 1), put(1, -1, 1), put(1, 1, -1),
            put(1001, 1, 1), put(-1001, 1, 1), put(FAR, 1, 1), put(-FAR, 1, 1), put(1, FAR, -FAR), put(1001, 10),
        ]
        told = ask_loaded(TWO, keep(3), *wrong, refresh(3), put(1, 1, 1))
        self.assertEqual(told, [[1, 1, 2]] + [[-4]] * len(wrong) + [[1, 0, 0, 2], [1, 3, 1]])

    def test_no_such_row(self):
        wrong = [take(-1), take(2), take(FAR), take(-FAR)]
        told = ask_loaded(TWO, keep(3), *wrong, refresh(3), take(1), take(1), take(0), take(0))
        self.assertEqual(told, [[1, 1, 2]] + [[-3]] * 4 + [[1, 0, 0, 2], [1, 1, 1], [-3], [1, 0, 2], [-3]])

    def test_16_rows(self):
        told = ask_loaded("columns a ; " + rows_text(15), keep(1), put(1, 1), put(1, 2), refresh(1), take(15), put(1, 2))
        self.assertEqual(told, [[1, 1, 1], [1, 16, 1], [-6], [1, 1, 1, 2], [1, 15, 2], [1, 16, 3]])

    def test_40_changes(self):
        told = ask_loaded(TWO, keep(1), *[put(1, 7, 7), take(2)] * 20, put(1, 7, 7), take(0), take(1), refresh(1), keep(1))
        self.assertEqual(told[40], [1, 2, 40])
        self.assertEqual(told[41:], [[-7], [-7], [-7], [1, 40, 1, 2], [1, 1, 2]])

    def test_40_changes_by_the_last_that_is_held(self):
        told = ask_loaded(TWO, *[put(1, 7, 7), take(2)] * 19, put(1, 7, 7), put(1, 8, 8), take(3), keep(1))
        self.assertEqual(told[38:], [[1, 3, 39], [1, 4, 40], [-7], [1, 1, 4]])

    def test_not_kept(self):
        told = ask_loaded(TWO, refresh(0), keep(1, 3), refresh(0), refresh(2), refresh(4), refresh(-1), refresh(FAR))
        self.assertEqual(told, [[-5], [1, 2, 4], [-5], [-5], [-5], [-5], [-5]])

    def test_no_longer_kept(self):
        self.assertEqual(ask_loaded(TWO, keep(1, 3), keep(3), refresh(1), keep(), refresh(3))[2:], [[-5], [1, 0, 0], [-5]])


class RefusalsThatWouldBothBeDue(unittest.TestCase):
    def test_a_row_that_does_not_fit_a_full_table(self):
        told = ask_loaded("columns a ; " + rows_text(16), put(1, 10), put(1, 9))
        self.assertEqual(told, [[-4], [-6]])

    def test_a_full_table_and_all_changes(self):
        told = ask_loaded("columns a ; " + rows_text(16), *[take(0), put(1, 1)] * 20, put(1, 10), put(1, 1), take(0))
        self.assertEqual(told[40:], [[-4], [-6], [-7]])

    def test_a_row_that_does_not_fit_and_all_changes(self):
        told = ask_loaded(TWO, *[put(1, 7, 7), take(2)] * 20, put(1, 7), put(1001, 7, 7), put(1, 7, 7))
        self.assertEqual(told[40:], [[-4], [-4], [-7]])

    def test_no_such_row_and_all_changes(self):
        told = ask_loaded(TWO, *[put(1, 7, 7), take(2)] * 20, take(2), take(-1), take(1))
        self.assertEqual(told[40:], [[-3], [-3], [-7]])

    def test_no_table_and_anything_else(self):
        self.assertEqual(ask(keep(-1), put(FAR, FAR), take(-FAR), refresh(-FAR)), [[-1]] * 4)


class LoadsBehindOneAnother(unittest.TestCase):
    def test_a_load_at_fault_changes_nothing(self):
        told = ask(load(SAMPLE), keep(1, 3), put(7, 9, 9), load("columns x, y ; row 1"), refresh(3), put(1, 1, 1), keep(1))
        self.assertEqual(told[3:], [[0, 3, 20], [1, 1, 1, 4], [1, 7, 2], [1, 1, 2]])

    def test_a_long_load_at_fault_changes_nothing(self):
        told = ask(load(TWO), keep(2), put(1, 1, 1), load(b" " * 4097), refresh(2), take(2))
        self.assertEqual(told[3:], [[0, 1, 4096], [1, 1, 1, 3], [1, 2, 2]])

    def test_a_second_load_forgets_the_first(self):
        told = ask(load(SAMPLE), keep(1, 3), put(7, 9, 9), load(TWO), refresh(1), refresh(3), keep(1, 3), take(2), take(1))
        self.assertEqual(told[3:], [[1, 2, 2, 0], [-5], [-5], [1, 2, 4], [-3], [1, 1, 1]])

    def test_the_same_table_again(self):
        told = ask(load(TWO), take(0), take(0), load(TWO), keep(3), take(0))
        self.assertEqual(told[3:], [[1, 2, 2, 0], [1, 1, 2], [1, 1, 1]])

    def test_40_changes_again_behind_a_second_load(self):
        forty = [put(1, 7, 7), take(2)] * 14
        told = ask(load(TWO), *forty, load(TWO), *forty)
        self.assertEqual(told[28], [1, 2, 28])
        self.assertEqual(told[29], [1, 2, 2, 0])
        self.assertEqual(told[30], [1, 3, 1])
        self.assertEqual(told[57], [1, 2, 28])


if __name__ == "__main__":
    unittest.main()
