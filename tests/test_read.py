"""The call read: which kept answer is read, how old, and the lines that are worked out from it."""

import unittest

from calling import SAMPLE, ages, ask, ask_loaded, keep, load, put, read, refresh, rows_text, take, together
from calling import told_lines, was

FAR = 10 ** 18
FOUR = (
    "columns a, b, c, d ; row 9, 1, 2, 3 : 1 ; row 0, 1, 2, 3 : 20 ; row 9, 2, 2, 3 : 300 ; "
    "row 9, 1, 2, 3 : 1000 ; row 9, 1, 0, 4 : -7 ;"
)
FOUR_LINES = {
    0: ([1314, 5],),
    1: ([0, 20, 1], [9, 1294, 4]),
    2: ([1, 1014, 4], [2, 300, 1]),
    4: ([0, -7, 1], [2, 1321, 4]),
    8: ([3, 1321, 4], [4, -7, 1]),
    5: ([0, 2, 20, 1], [9, 0, -7, 1], [9, 2, 1301, 3]),
    10: ([1, 3, 1021, 3], [1, 4, -7, 1], [2, 3, 300, 1]),
    7: ([0, 1, 2, 20, 1], [9, 1, 0, -7, 1], [9, 1, 2, 1001, 2], [9, 2, 2, 300, 1]),
    13: ([0, 2, 3, 20, 1], [9, 0, 4, -7, 1], [9, 2, 3, 1301, 3]),
    15: ([0, 1, 2, 3, 20, 1], [9, 1, 0, 4, -7, 1], [9, 1, 2, 3, 1001, 2], [9, 2, 2, 3, 300, 1]),
}


class TheTableIsRead(unittest.TestCase):
    def test_nothing_is_kept(self):
        told = ask_loaded(FOUR, *[read(grouping, 0) for grouping in FOUR_LINES])
        self.assertEqual(told, [[1, -1, 0, 5] + told_lines(*lines) for lines in FOUR_LINES.values()])

    def test_nothing_that_is_kept_is_young_enough(self):
        told = ask_loaded(SAMPLE, keep(1, 3), put(7, 1, 1), put(1, 5, 5), read(1, 1), read(1, 0), read(1, 2))
        now = told_lines([0, 8, 3], [1, 10, 3], [5, 1, 1])
        self.assertEqual(told[3:], [[1, -1, 0, 7] + now] * 2 + [[1, 1, 2, 2] + told_lines([0, 8, 3], [1, 3, 2])])

    def test_it_can_be_worked_out_from_nothing_that_is_kept(self):
        told = ask_loaded(FOUR, keep(0, 2, 4, 8, 6, 10, 12, 14), read(1, FAR), read(5, FAR), read(2, FAR))
        self.assertEqual(told[1], [1, -1, 0, 5] + told_lines(*FOUR_LINES[1]))
        self.assertEqual(told[2], [1, -1, 0, 5] + told_lines(*FOUR_LINES[5]))
        self.assertEqual(told[3], [1, 2, 0, 2] + told_lines(*FOUR_LINES[2]))

    def test_a_part_of_the_columns_is_not_enough(self):
        told = ask_loaded(SAMPLE, keep(0, 1, 2), read(3, 9), read(2, 9), keep(1), read(2, 9))
        self.assertEqual(told[1], [1, -1, 0, 5] + told_lines([0, 0, 6, 2], [0, 1, 2, 1], [1, 0, 3, 2]))
        self.assertEqual(told[2], [1, 2, 0, 2] + told_lines([0, 9, 4], [1, 2, 1]))
        self.assertEqual(told[4], [1, -1, 0, 5] + told_lines([0, 9, 4], [1, 2, 1]))

    def test_no_longer_kept(self):
        told = ask_loaded(SAMPLE, keep(1), keep(2), read(1, 9), keep(), read(2, 9))
        self.assertEqual([told[2][:4], told[4][:4]], [[1, -1, 0, 5]] * 2)

    def test_a_kept_one_is_read_though_it_has_more_lines_than_the_table_rows(self):
        told = ask_loaded("columns a ; row 1 : 1 ; row 2 : 2 ;", keep(1), take(0), take(0), read(0, 2), read(0, 1), read(1, 2))
        self.assertEqual(told[3:5], [[1, 1, 2, 2] + told_lines([3, 2]), [1, -1, 0, 0, 0]])
        self.assertEqual(told[5], [1, 1, 2, 2] + told_lines([1, 1, 1], [2, 2, 1]))


class HowOldItMayBe(unittest.TestCase):
    def test_an_old_one_is_told_as_it_was(self):
        told = ask_loaded(SAMPLE, keep(3), put(7, 1, 1), take(0), read(3, 2), read(1, 5), read(3, 1))
        self.assertEqual(told[3], [1, 3, 2, 3] + told_lines([0, 0, 6, 2], [0, 1, 2, 1], [1, 0, 3, 2]))
        self.assertEqual(told[4], [1, 3, 2, 3] + told_lines([0, 8, 3], [1, 3, 2]))
        self.assertEqual(told[5][:4], [1, -1, 0, 5])

    def test_just_as_old_as_allowed_and_older_by_one(self):
        told = ask_loaded(SAMPLE, keep(1), *[call for a in range(4) for call in (read(1, a), read(1, a - 1), put(1, 9, 9))])
        for age in range(4):
            self.assertEqual(told[1 + 3 * age], [1, 1, age, 2] + told_lines([0, 8, 3], [1, 3, 2]))
            self.assertEqual(told[2 + 3 * age][:4], [1, -1, 0, 5 + age] if age else [-8])

    def test_a_younger_one_with_more_lines(self):
        told = ask_loaded(SAMPLE, keep(1, 3), put(7, 1, 1), refresh(3), read(1, 0), read(1, 1), read(1, FAR))
        self.assertEqual(told[3], [1, 3, 0, 4] + told_lines([0, 8, 3], [1, 10, 3]))
        self.assertEqual(told[4:], [[1, 1, 1, 2] + told_lines([0, 8, 3], [1, 3, 2])] * 2)

    def test_one_that_is_brought_up_to_date_is_young(self):
        told = ask_loaded(SAMPLE, keep(1), put(7, 1, 1), refresh(1), read(1, 0), put(1, 1, 1), read(1, 0), read(1, 1))
        self.assertEqual(told[3], [1, 1, 0, 2] + told_lines([0, 8, 3], [1, 10, 3]))
        self.assertEqual(told[5], [1, -1, 0, 7] + told_lines([0, 8, 3], [1, 11, 4]))
        self.assertEqual(told[6], [1, 1, 1, 2] + told_lines([0, 8, 3], [1, 10, 3]))

    def test_great_numbers(self):
        told = ask_loaded(SAMPLE, keep(1), put(7, 1, 1), read(1, 10 ** 17 + 1), read(1, FAR), read(2, FAR))
        self.assertEqual(told[2:4], [[1, 1, 1, 2] + told_lines([0, 8, 3], [1, 3, 2])] * 2)
        self.assertEqual(told[4], [1, -1, 0, 6] + told_lines([0, 9, 4], [1, 9, 2]))

    def test_reading_makes_nothing_younger(self):
        told = ask_loaded(SAMPLE, keep(1, 3), put(7, 1, 1), ages(), read(1, 0), read(0, 9), read(3, 1), ages(), together())
        self.assertEqual(told[6], told[2])
        self.assertEqual(told[7], [2, 2, 1, -1, 1, 3, -1, 1])


class TheOneWithTheFewestLines(unittest.TestCase):
    def test_of_alike_ones_the_lesser_grouping(self):
        for groupings in ((1, 2, 3), (3, 2, 1), (2, 3, 1)):
            told = ask_loaded("columns a, b ; row 1, 5 : 1 ; row 2, 6 : 2 ;", keep(*groupings), read(0, 0), read(2, 0))
            self.assertEqual(told[1:], [[1, 1, 0, 2, 1, 3, 2], [1, 2, 0, 2] + told_lines([5, 1, 1], [6, 2, 1])])

    def test_of_alike_ones_the_lesser_grouping_not_the_younger_one(self):
        text = "columns a, b ; row 1, 5 : 1 ; row 2, 6 : 2 ;"
        told = ask_loaded(text, keep(1), put(3, 1, 5), keep(1, 2), read(0, 1), read(0, 0), keep(2), keep(1, 2), read(0, 1))
        self.assertEqual(told[3:5], [[1, 1, 1, 2, 1, 3, 2], [1, 2, 0, 2, 1, 6, 3]])
        self.assertEqual(told[7], [1, 1, 0, 2, 1, 6, 3])

    def test_a_greater_grouping_with_fewer_lines(self):
        text = "columns a, b ; row 1, 5 : 1 ; row 2, 5 : 2 ; row 3, 5 : 3 ;"
        told = ask_loaded(text, keep(1, 2, 3), read(0, 0), keep(1, 3), read(0, 0))
        self.assertEqual([told[1], told[3]], [[1, 2, 0, 1, 1, 6, 3], [1, 1, 0, 3, 1, 6, 3]])

    def test_lines_count_as_the_answer_is_kept(self):
        # When 3 was kept there was one row; 1 is up to date and has more lines by now.
        text = "columns a, b ; row 1, 1 : 4 ;"
        told = ask_loaded(text, keep(3), put(1, 2, 1), put(1, 3, 1), keep(3, 1), read(1, 2), read(1, 1), read(0, 2))
        self.assertEqual(told[4], [1, 3, 2, 1] + told_lines([1, 4, 1]))
        self.assertEqual(told[5], [1, 1, 0, 3] + told_lines([1, 4, 1], [2, 1, 1], [3, 1, 1]))
        self.assertEqual(told[6], [1, 3, 2, 1, 1, 4, 1])

    def test_lines_count_as_the_answer_is_kept_though_there_are_fewer_now(self):
        text = "columns a, b ; row 1, 1 : 4 ; row 2, 1 : 5 ; row 3, 1 : 6 ;"
        told = ask_loaded(text, keep(1), take(0), keep(1, 3), take(0), read(1, 2), read(1, 1), read(1, 0))
        self.assertEqual(told[4:6], [[1, 3, 1, 2] + told_lines([2, 5, 1], [3, 6, 1])] * 2)
        self.assertEqual(told[6], [1, -1, 0, 1] + told_lines([3, 6, 1]))


class WhatIsWorkedOut(unittest.TestCase):
    def test_from_a_greater_one_in_each_place_of_its_columns(self):
        for kept in (15, 13, 7, 5, 10):
            for grouping, lines in FOUR_LINES.items():
                if kept & grouping == grouping:
                    told = ask_loaded(FOUR, keep(kept), read(grouping, 0))[1]
                    expected = [1, kept, 0, len(FOUR_LINES[kept])] + told_lines(*lines)
                    self.assertEqual(told, expected, f"{grouping} from {kept}")

    def test_lines_that_fall_together_do_so_wherever_they_stand(self):
        text = "columns a, b ; row 1, 7 : 1 ; row 0, 8 : 2 ; row 0, 7 : 4 ; row 1, 8 : 8 ; row 2, 6 : 16 ;"
        told = ask_loaded(text, keep(3), read(2, 0), read(1, 0))
        self.assertEqual(told[1], [1, 3, 0, 5] + told_lines([6, 16, 1], [7, 5, 2], [8, 10, 2]))
        self.assertEqual(told[2], [1, 3, 0, 5] + told_lines([0, 6, 2], [1, 9, 2], [2, 16, 1]))

    def test_no_columns(self):
        told = ask_loaded(SAMPLE, read(0, 0), keep(0), read(0, 0), keep(2), read(0, 0))
        self.assertEqual(told[0::2], [[1, -1, 0, 5, 1, 11, 5], [1, 0, 0, 1, 1, 11, 5], [1, 2, 0, 2, 1, 11, 5]])

    def test_no_columns_no_rows(self):
        told = ask_loaded("columns a, b ;", read(0, 0), read(3, 0), keep(0), read(0, 0), keep(3), read(0, 0), read(1, 0))
        self.assertEqual(told[0:2], [[1, -1, 0, 0, 0]] * 2)
        self.assertEqual([told[3], told[5], told[6]], [[1, 0, 0, 0, 0], [1, 3, 0, 0, 0], [1, 3, 0, 0, 0]])

    def test_sums_below_zero_and_of_zero(self):
        text = "columns a, b ; row 1, 1 : 3 ; row 1, 2 : -3 ; row 2, 1 : -1000 ; row 2, 1 : -1000 ; row 3, 3 : 0 ;"
        by_a = told_lines([1, 0, 2], [2, -2000, 2], [3, 0, 1])
        told = ask_loaded(text, read(1, 0), keep(1), read(1, 0), keep(3), read(1, 0), put(-1, 3, 3), put(1, 3, 3),
                          refresh(3), read(1, 0))
        self.assertEqual(told[0], [1, -1, 0, 5] + by_a)
        self.assertEqual(told[2], [1, 1, 0, 3] + by_a)
        self.assertEqual(told[4], [1, 3, 0, 4] + by_a)
        self.assertEqual(told[8], [1, 3, 0, 4] + told_lines([1, 0, 2], [2, -2000, 2], [3, 0, 3]))

    def test_minus_zero_is_zero(self):
        told = ask_loaded("columns a ; row 1 : -0 ; row 1 : -7 ; row 2 : -0 ;", read(1, 0), put(0, 2), read(0, 0))
        self.assertEqual([told[0], told[2]], [[1, -1, 0, 3] + told_lines([1, -7, 2], [2, 0, 1]), [1, -1, 0, 4, 1, -7, 4]])

    def test_lines_stand_in_order_of_their_numbers(self):
        text = "columns a, b ; row 9, 0 : 1 ; row 1, 9 : 2 ; row 1, 0 : 3 ; row 0, 9 : 4 ;"
        lines = told_lines([0, 9, 4, 1], [1, 0, 3, 1], [1, 9, 2, 1], [9, 0, 1, 1])
        told = ask_loaded(text, read(3, 0), keep(3), read(3, 0), put(5, 0, 0), refresh(3), read(3, 0))
        self.assertEqual([told[0], told[2]], [[1, -1, 0, 4] + lines, [1, 3, 0, 4] + lines])
        self.assertEqual(told[5], [1, 3, 0, 5, 5, 0, 0, 5, 1] + lines[1:])

    def test_16_rows_in_one_group_and_in_16(self):
        told = ask_loaded("columns a, b ; " + rows_text(16, "row 4, 2 : -1000 ;"), read(3, 0), keep(3), read(2, 0))
        self.assertEqual(told[0], [1, -1, 0, 16] + told_lines([4, 2, -16000, 16]))
        self.assertEqual(told[2], [1, 3, 0, 1] + told_lines([2, -16000, 16]))
        text = "columns a, b ; " + " ".join(f"row {n % 4}, {n // 4} : {n} ;" for n in reversed(range(16)))
        lines = [[a, b, a + 4 * b, 1] for a in range(4) for b in range(4)]
        self.assertEqual(ask_loaded(text, read(3, 0))[0], [1, -1, 0, 16] + told_lines(*lines))


class Refusals(unittest.TestCase):
    def test_no_table(self):
        self.assertEqual(ask(read(0, 0), read(-1, -1), load("columns"), read(0, 0)), [[-1], [-1], [0, 3, 7], [-1]])

    def test_no_such_grouping(self):
        for columns, most in (("a", 1), ("a, b", 3), ("a, b, c", 7), ("a, b, c, d", 15)):
            calls = [read(most, 0), read(most + 1, 0), read(-1, 0), read(FAR, 0), read(-FAR, 0)]
            told = ask_loaded(f"columns {columns} ;", *calls)
            self.assertEqual(told, [[1, -1, 0, 0, 0]] + [[-2]] * 4)

    def test_an_age_below_zero(self):
        told = ask_loaded(SAMPLE, keep(0), read(0, 0), read(0, -1), read(0, -FAR), read(3, -1))
        self.assertEqual(told[1:], [[1, 0, 0, 1, 1, 11, 5], [-8], [-8], [-8]])

    def test_both_would_be_due(self):
        self.assertEqual(ask_loaded(SAMPLE, read(4, -1), read(-1, -1), read(FAR, -FAR)), [[-2]] * 3)

    def test_nothing_moves_behind_a_refusal(self):
        seen = [ages(), together(), read(3, 1), read(3, 0), was(1, 3), was(0, 3)]
        refused = [read(4, 0), read(-1, 0), read(1, -1), read(4, -1)]
        told = ask_loaded(SAMPLE, keep(1, 3), put(7, 1, 1), *seen, *refused, *seen)
        self.assertEqual(told[8:12], [[-2], [-2], [-8], [-2]])
        self.assertEqual(told[12:], told[2:8])


if __name__ == "__main__":
    unittest.main()
