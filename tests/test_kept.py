"""The calls keep and refresh: what is made, what stays as it is, and what the changes since do to it."""

import unittest

from calling import SAMPLE, ask_loaded, keep, put, refresh, take

THREE = "columns a, b, c ; row 1, 1, 1 : 5 ; row 1, 1, 2 : 6 ; row 1, 2, 1 : 7 ; row 2, 1, 1 : 8 ;"


class Keep(unittest.TestCase):
    def test_lines_of_every_grouping(self):
        told = ask_loaded(THREE, *[keep(grouping) for grouping in range(8)], keep(*range(8)))
        sizes = [1, 2, 2, 3, 2, 3, 3, 4]
        self.assertEqual(told[:8], [[1, 1, size] for size in sizes])
        self.assertEqual(told[8], [1, 8, sum(sizes)])

    def test_the_first_columns_bit_is_the_least(self):
        text = "columns a, b, c, d ; row 1, 1, 1, 1 : 0 ; row 2, 1, 1, 1 : 0 ; row 3, 2, 1, 1 : 0 ; row 4, 3, 2, 1 : 0 ;"
        self.assertEqual(ask_loaded(text, keep(1), keep(2), keep(4), keep(8)), [[1, 1, n] for n in (4, 3, 2, 1)])

    def test_no_rows_no_lines(self):
        self.assertEqual(ask_loaded("columns a, b ;", keep(0), keep(3), keep(0, 1, 2, 3)), [[1, 1, 0], [1, 1, 0], [1, 4, 0]])

    def test_none(self):
        self.assertEqual(ask_loaded(SAMPLE, keep(), keep(3), keep(), refresh(3)), [[1, 0, 0], [1, 1, 3], [1, 0, 0], [-5]])

    def test_alike_ones_count_once(self):
        self.assertEqual(ask_loaded(SAMPLE, keep(3, 1, 3, 3, 1), keep(0, 0)), [[1, 2, 5], [1, 1, 1]])

    def test_kept_ones_stay_as_they_are(self):
        told = ask_loaded(SAMPLE, keep(1, 3), put(1, 9, 9), keep(3, 2), keep(2, 3), refresh(3), refresh(2), keep(2, 3))
        self.assertEqual(told[2], [1, 2, 3 + 3])
        self.assertEqual(told[3], [1, 2, 3 + 3])
        self.assertEqual(told[4], [1, 1, 1, 4])
        self.assertEqual(told[5], [1, 0, 0, 3])
        self.assertEqual(told[6], [1, 2, 4 + 3])

    def test_one_that_went_is_made_anew(self):
        told = ask_loaded(SAMPLE, keep(1), put(1, 9, 9), keep(1), keep(2), keep(1), refresh(1))
        self.assertEqual(told, [[1, 1, 2], [1, 6, 1], [1, 1, 2], [1, 1, 3], [1, 1, 3], [1, 0, 0, 3]])

    def test_made_from_the_table_as_it_is_then(self):
        told = ask_loaded(SAMPLE, take(1), keep(2), put(1, 5, 5), take(0), keep(3, 2), refresh(2), refresh(3))
        self.assertEqual(told[1], [1, 1, 1])
        self.assertEqual(told[4], [1, 2, 1 + 3])
        self.assertEqual(told[5:], [[1, 2, 2, 2], [1, 0, 0, 3]])

    def test_a_refused_keep_keeps_what_was_kept(self):
        told = ask_loaded(SAMPLE, keep(1), put(1, 9, 9), keep(2, 4), keep(1), refresh(1))
        self.assertEqual(told[2:], [[-2], [1, 1, 2], [1, 1, 1, 3]])


class Refresh(unittest.TestCase):
    def test_no_changes_since(self):
        self.assertEqual(ask_loaded(SAMPLE, keep(1), refresh(1), refresh(1))[1:], [[1, 0, 0, 2], [1, 0, 0, 2]])

    def test_a_second_time_there_are_none_since(self):
        told = ask_loaded(SAMPLE, keep(1), put(1, 9, 9), refresh(1), refresh(1), put(1, 8, 8), refresh(1))
        self.assertEqual([told[2], told[3], told[5]], [[1, 1, 1, 3], [1, 0, 0, 3], [1, 1, 1, 4]])

    def test_only_that_one_is_brought_up_to_date(self):
        told = ask_loaded(SAMPLE, keep(1, 3), put(1, 9, 9), refresh(1), keep(1, 3), refresh(3), keep(1, 3))
        self.assertEqual(told[2:], [[1, 1, 1, 3], [1, 2, 3 + 3], [1, 1, 1, 4], [1, 2, 3 + 4]])

    def test_changes_before_it_was_made_do_not_count(self):
        told = ask_loaded(SAMPLE, put(1, 9, 9), keep(3), put(1, 9, 8), refresh(3), keep(1, 3), take(0), refresh(1), refresh(3))
        self.assertEqual(told[3], [1, 1, 1, 5])
        self.assertEqual(told[6:], [[1, 1, 1, 3], [1, 1, 1, 5]])

    def test_unlike_groups_are_counted_once(self):
        told = ask_loaded(SAMPLE, keep(0, 1, 2, 3), put(1, 5, 5), put(1, 5, 6), put(1, 6, 5), put(1, 5, 5),
                          refresh(0), refresh(1), refresh(2), refresh(3))
        self.assertEqual(told[5:], [[1, 4, 1, 1], [1, 4, 2, 4], [1, 4, 2, 4], [1, 4, 3, 6]])

    def test_a_line_goes_with_its_last_row(self):
        text = "columns a ; row 1 : 3 ; row 1 : -3 ; row 2 : 0 ;"
        told = ask_loaded(text, keep(0, 1), take(0), refresh(1), take(0), refresh(1), take(0), refresh(1), refresh(0))
        self.assertEqual(told[2::2], [[1, 1, 1, 2], [1, 1, 1, 1], [1, 1, 1, 0]])
        self.assertEqual(told[7], [1, 3, 1, 0])

    def test_a_line_whose_sum_is_zero_stays(self):
        self.assertEqual(ask_loaded("columns a ; row 1 : 3 ;", keep(1), put(-3, 1), refresh(1))[2], [1, 1, 1, 1])
        self.assertEqual(ask_loaded("columns a ; row 1 : 0 ;", keep(1), refresh(1)), [[1, 1, 1], [1, 0, 0, 1]])

    def test_lines_come_and_go_and_come(self):
        told = ask_loaded("columns a ;", keep(0, 1), put(1, 1), refresh(1), take(0), refresh(1), put(1, 2), put(1, 1),
                          refresh(1), refresh(0))
        self.assertEqual([told[2], told[4], told[7]], [[1, 1, 1, 1], [1, 1, 1, 0], [1, 2, 2, 2]])
        self.assertEqual(told[8], [1, 4, 1, 1])

    def test_a_row_put_and_taken_again_leaves_no_line(self):
        told = ask_loaded(SAMPLE, keep(0, 1, 3), put(9, 9, 9), take(5), refresh(0), refresh(1), refresh(3))
        self.assertEqual(told[3:], [[1, 2, 1, 1], [1, 2, 1, 2], [1, 2, 1, 3]])

    def test_a_row_that_was_told_between_leaves_no_line(self):
        told = ask_loaded(SAMPLE, keep(1), put(9, 9, 9), refresh(1), keep(1, 3), take(5), keep(1, 3), refresh(1), refresh(3))
        self.assertEqual(told[2:4], [[1, 1, 1, 3], [1, 2, 3 + 4]])
        self.assertEqual(told[5:], [[1, 2, 3 + 4], [1, 1, 1, 2], [1, 1, 1, 3]])

    def test_a_row_taken_and_put_again_leaves_no_gap(self):
        told = ask_loaded(SAMPLE, keep(3), take(1), put(2, 0, 1), refresh(3), keep(3, 1), take(4), keep(3), refresh(3))
        self.assertEqual(told[3], [1, 2, 1, 3])
        self.assertEqual(told[6:], [[1, 1, 3], [1, 1, 1, 2]])


if __name__ == "__main__":
    unittest.main()
