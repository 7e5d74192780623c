"""The calls ages and together: how old kept answers are, and what it costs to bring all of them up to date."""

import unittest

from calling import SAMPLE, ages, ask, ask_loaded, keep, load, put, read, refresh, take, together

THREE = "columns a, b, c ; row 1, 1, 1 : 5 ; row 1, 1, 2 : 6 ; row 1, 2, 1 : 7 ; row 2, 1, 1 : 8 ;"
FOUR = "columns a, b, c, d ; row 0, 0, 0, 0 : 1 ; row 0, 0, 0, 1 : 1 ; row 0, 0, 2, 1 : 1 ; row 0, 3, 2, 1 : 1 ;"


def ways(*told):
    """How together tells these: each one a grouping, from which other one, and what it costs."""
    return [sum(cost for _, _, cost in told), len(told)] + [number for way in told for number in way]


class Ages(unittest.TestCase):
    def test_nothing_is_kept(self):
        told = ask_loaded(SAMPLE, ages(), put(1, 1, 1), ages(), keep(1), keep(), ages())
        self.assertEqual([told[0], told[2], told[5]], [[0]] * 3)

    def test_one(self):
        told = ask_loaded(SAMPLE, keep(1), ages(), put(1, 9, 9), ages(), take(0), ages(), refresh(1), ages())
        self.assertEqual(told[1::2], [[1, 1, 0, 2], [1, 1, 1, 2], [1, 1, 2, 2], [1, 1, 0, 3]])

    def test_changes_before_it_was_kept_do_not_count(self):
        told = ask_loaded(SAMPLE, put(1, 9, 9), take(0), keep(2), ages(), put(1, 1, 8), keep(2, 0), ages())
        self.assertEqual([told[3], told[6]], [[1, 2, 0, 3], [2, 0, 0, 1, 2, 1, 3]])

    def test_they_stand_in_order_of_their_groupings(self):
        told = ask_loaded(THREE, keep(6), put(1, 9, 9, 9), keep(6, 3), put(1, 8, 8, 8), keep(3, 7, 6, 0), ages())
        self.assertEqual(told[5], [4, 0, 0, 1, 3, 1, 4, 6, 2, 3, 7, 0, 6])

    def test_all_16_groupings(self):
        sizes = [1, 1, 2, 2, 2, 2, 3, 3, 2, 2, 3, 3, 3, 3, 4, 4]
        told = ask_loaded(FOUR, keep(*reversed(range(16))), ages(), put(1, 9, 9, 9, 9), refresh(0), refresh(15), ages())
        self.assertEqual(told[1], [16] + [number for g, size in enumerate(sizes) for number in (g, 0, size)])
        ages_then = [0] + [1] * 14 + [0]
        sizes[15] += 1
        self.assertEqual(told[5], [16] + [number for g in range(16) for number in (g, ages_then[g], sizes[g])])

    def test_no_rows(self):
        told = ask_loaded("columns a ;", keep(0, 1), ages(), put(1, 1), take(0), ages())
        self.assertEqual([told[1], told[4]], [[2, 0, 0, 0, 1, 0, 0], [2, 0, 2, 0, 1, 2, 0]])

    def test_a_refused_change_makes_nothing_older(self):
        told = ask_loaded(SAMPLE, keep(1), put(1, 10, 1), take(5), refresh(3), keep(4), ages())
        self.assertEqual(told[5], [1, 1, 0, 2])

    def test_40_changes(self):
        told = ask_loaded(SAMPLE, keep(3), *[put(1, 1, 1), take(5)] * 20, put(1, 1, 1), ages(), together())
        self.assertEqual(told[41:], [[-7], [1, 3, 40, 3], [40, 1, 3, -1, 40]])

    def test_a_second_load_keeps_nothing(self):
        told = ask(load(SAMPLE), keep(1), put(1, 1, 1), load(SAMPLE), ages(), together(), keep(1), ages(), load("?"), ages())
        self.assertEqual(told[4:], [[0], [0, 0], [1, 1, 2], [1, 1, 0, 2], [0, 2, 0], [1, 1, 0, 2]])


class Together(unittest.TestCase):
    def test_nothing_is_kept(self):
        self.assertEqual(ask_loaded(SAMPLE, together(), put(1, 1, 1), together())[0::2], [[0, 0], [0, 0]])
        self.assertEqual(ask_loaded(SAMPLE, keep(1), put(1, 1, 1), keep(), together())[3], [0, 0])

    def test_one_goes_by_the_changes(self):
        told = ask_loaded(SAMPLE, keep(1), together(), put(1, 9, 9), together(), take(5), together())
        self.assertEqual(told[1::2], [ways((1, -1, 0)), ways((1, -1, 1)), ways((1, -1, 2))])

    def test_without_changes_all_cost_nothing(self):
        told = ask_loaded(FOUR, keep(*range(16)), together())
        self.assertEqual(told[1], ways(*[(grouping, -1, 0) for grouping in range(16)]))

    def test_cheaper_from_another_one(self):
        told = ask_loaded(SAMPLE, keep(1, 3), put(1, 9, 9), put(2, 9, 9), together(), put(1, 9, 8), together())
        self.assertEqual(told[3], ways((1, 3, 1), (3, -1, 2)))
        self.assertEqual(told[5], ways((1, 3, 2), (3, -1, 3)))

    def test_a_row_that_is_taken_touches_its_own_group(self):
        told = ask_loaded(SAMPLE, keep(1, 3), take(0), take(3), together(), take(1), together())
        self.assertEqual([told[3], told[5]], [ways((1, 3, 1), (3, -1, 2)), ways((1, 3, 2), (3, -1, 3))])
        told = ask_loaded(SAMPLE, keep(0, 2), put(1, 0, 0), take(0), take(0), together())
        self.assertEqual(told[4], ways((0, 2, 2), (2, -1, 3)))

    def test_what_costs_alike_goes_by_the_changes(self):
        told = ask_loaded(SAMPLE, keep(1, 3), put(1, 9, 9), together(), take(0), together())
        self.assertEqual([told[2], told[4]], [ways((1, -1, 1), (3, -1, 1)), ways((1, -1, 2), (3, -1, 2))])

    def test_of_two_others_that_cost_alike_the_lesser_grouping(self):
        told = ask_loaded(THREE, keep(7, 5, 3, 1), put(1, 9, 9, 9), take(4), together(), keep(1, 7, 5), together())
        self.assertEqual(told[3], ways((1, 3, 1), (3, 7, 1), (5, 7, 1), (7, -1, 2)))
        self.assertEqual(told[5], ways((1, 5, 1), (5, 7, 1), (7, -1, 2)))

    def test_of_two_others_the_cheaper_though_greater_one(self):
        told = ask_loaded(THREE, keep(1, 3, 5), put(1, 9, 1, 9), put(1, 9, 2, 9), put(1, 9, 3, 9), put(1, 9, 1, 9), together())
        self.assertEqual(told[5], ways((1, 5, 1), (3, -1, 4), (5, -1, 4)))
        told = ask_loaded(THREE, keep(1, 3, 5), put(1, 9, 1, 9), put(1, 9, 2, 8), put(1, 9, 1, 7), together())
        self.assertEqual(told[4], ways((1, 3, 2), (3, -1, 3), (5, -1, 3)))

    def test_only_from_one_that_has_all_its_columns(self):
        told = ask_loaded(THREE, keep(0, 1, 6), put(1, 9, 9, 9), take(4), together())
        self.assertEqual(told[3], ways((0, 1, 1), (1, -1, 2), (6, -1, 2)))

    def test_never_from_an_older_or_a_younger_one(self):
        twice = [put(1, 9, 9), take(5)]
        older = ask_loaded(SAMPLE, keep(3), put(1, 9, 9), keep(3, 1), take(5), *twice, together())
        self.assertEqual(older[-1], ways((1, -1, 3), (3, -1, 4)))
        younger = ask_loaded(SAMPLE, keep(1), put(1, 9, 9), keep(3, 1), take(5), *twice, together())
        self.assertEqual(younger[-1], ways((1, -1, 4), (3, -1, 3)))
        just_as_old = ask_loaded(SAMPLE, keep(1, 3), *twice, *twice, together())
        self.assertEqual(just_as_old[-1], ways((1, 3, 1), (3, -1, 4)))

    def test_just_as_old_again_once_both_are_brought_up_to_date(self):
        told = ask_loaded(SAMPLE, keep(3), put(1, 9, 9), keep(1, 3), refresh(3), put(1, 9, 9), take(5), together())
        self.assertEqual(told[-1], ways((1, 3, 1), (3, -1, 2)))
        told = ask_loaded(SAMPLE, keep(1, 3), put(1, 9, 9), refresh(3), refresh(1), together(), take(5), put(1, 9, 9),
                          together())
        self.assertEqual([told[4], told[7]], [ways((1, -1, 0), (3, -1, 0)), ways((1, 3, 1), (3, -1, 2))])

    def test_one_up_to_date_brings_no_other_one_there(self):
        told = ask_loaded(SAMPLE, keep(1, 3), put(1, 9, 9), put(1, 9, 9), refresh(3), together())
        self.assertEqual(told[4], ways((1, -1, 2), (3, -1, 0)))

    def test_all_16_groupings(self):
        told = ask_loaded(FOUR, keep(*range(16)), put(1, 5, 5, 5, 5), put(1, 5, 5, 5, 6), put(1, 5, 5, 5, 5), together())
        from_others = {0: (1, 1), 1: (3, 1), 2: (3, 1), 3: (7, 1), 4: (5, 1), 5: (7, 1), 6: (7, 1), 7: (15, 2)}
        from_others.update({8: (9, 2), 9: (11, 2), 10: (11, 2), 11: (15, 2), 12: (13, 2), 13: (15, 2), 14: (15, 2)})
        from_others[15] = (-1, 3)
        self.assertEqual(told[4], ways(*[(g, *from_others[g]) for g in range(16)]))

    def test_it_brings_nothing_up_to_date(self):
        seen = [ages(), read(1, 9), read(1, 0), read(3, 9)]
        told = ask_loaded(SAMPLE, keep(1, 3), put(1, 9, 9), take(5), *seen, together(), *seen, together())
        self.assertEqual(told[3:8], told[8:])


class Refusals(unittest.TestCase):
    def test_no_table(self):
        self.assertEqual(ask(ages(), together(), load("?"), ages(), together()), [[-1], [-1], [0, 2, 0], [-1], [-1]])

    def test_a_refusal_for_want_of_a_table_leaves_none(self):
        told = ask(ages(), together(), load(SAMPLE), ages(), together(), put(1, 1, 1))
        self.assertEqual(told[2:], [[1, 2, 5, 4], [0], [0, 0], [1, 6, 1]])


if __name__ == "__main__":
    unittest.main()
