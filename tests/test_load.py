"""The call load: tables that are right, and each fault with its place."""

import unittest

from calling import SAMPLE, ask, load, rows_text


def loaded(text):
    return ask(load(text))[0]


class LoadCase(unittest.TestCase):
    def assert_right(self, text, columns, rows, questions):
        self.assertEqual(loaded(text), [1, columns, rows, questions], text)

    def assert_fault(self, text, code, place):
        self.assertEqual(loaded(text), [0, code, place], text)

    def assert_fault_at(self, text, code, mark):
        """The fault's place is where mark stands last in the text."""
        self.assert_fault(text, code, text.rindex(mark))


class RightTables(LoadCase):
    def test_the_sample(self):
        self.assert_right(SAMPLE, 2, 5, 4)

    def test_no_rows_no_questions(self):
        self.assert_right("columns a ;", 1, 0, 0)
        self.assert_right("columns a ; row 1 : 1 ;", 1, 1, 0)
        self.assert_right("columns a ; ask a ;", 1, 0, 1)

    def test_rows_and_questions_mixed(self):
        self.assert_right("columns a; ask; row 1:1; ask a; row 2:2; row 3:3; ask a times 2;", 1, 3, 3)

    def test_questions_of_every_form(self):
        self.assert_right("columns a, b; ask ; ask times 3; ask b, a; ask a times 1; ask b times 99;", 2, 0, 5)

    def test_a_question_may_name_all_columns_in_any_order(self):
        self.assert_right("columns a, b, c, d; ask d, b, a, c;", 4, 0, 1)

    def test_blanks_and_remarks_between_any_two_tokens(self):
        text = "\t#; x\n # y # z\ncolumns#\na\t,\nb#,\n;row 1#2\n,2:-#\n3;ask#a\n;#;"
        self.assert_right(text, 2, 1, 1)

    def test_no_blanks_where_tokens_part_themselves(self):
        self.assert_right("columns a,b;row 1,2:-3;ask a,b times 4;ask times 5;", 2, 1, 2)
        self.assert_right("columns a;ask times 5;row 1:5;", 1, 1, 1)

    def test_a_remark_ends_at_the_row_end_alone(self):
        self.assert_right("columns a ; # row 1 : 1 ; \t ask ;", 1, 0, 0)
        self.assert_right("columns a ; # row 1 : 1 ;\nask ;", 1, 0, 1)
        self.assert_right([35, 0, 255, 200, 13, 10] + list(b"columns a ; # ") + [7], 1, 0, 0)

    def test_words_are_words_only_as_they_stand(self):
        self.assert_right("columns Row, ask1, timess, column; ask Row, timess times 2;", 4, 0, 1)

    def test_names_differ_by_case_and_digits(self):
        self.assert_right("columns a, A, a1, a2; ask A, a2;", 4, 0, 1)


class TextsAndTokens(LoadCase):
    def test_4096_bytes_and_4097(self):
        text = "columns a ;"
        self.assert_right(text + " " * (4096 - len(text)), 1, 0, 0)
        self.assert_fault(text + " " * (4097 - len(text)), 1, 4096)
        self.assert_fault([0] * 8192, 1, 4096)
        self.assert_fault("!" * 4096, 2, 0)

    def test_a_name_of_16_bytes_and_of_17(self):
        long = "a" + "B9" * 7 + "z"
        self.assertEqual(len(long), 16)
        self.assert_right(f"columns {long} ; ask {long} ;", 1, 0, 1)
        self.assert_fault(f"columns {long}z ;", 2, 8)
        self.assert_fault(f"columns {long} ; ask {long}0 ;", 2, 31)

    def test_the_greatest_number_and_one_more(self):
        self.assert_fault_at("columns a ; row 0 : 1000000000 ;", 7, "1000000000")
        self.assert_fault_at("columns a ; row 0 : 1000000001 ;", 2, "1000000001")
        self.assert_fault_at("columns a ; row 0 : 10000000000 ;", 2, "10000000000")
        self.assert_fault("9" * 4096, 2, 0)
        self.assert_fault("1000000000", 3, 0)

    def test_a_needless_zero(self):
        self.assert_right("columns a ; row 0 : 0 ;", 1, 1, 0)
        self.assert_fault_at("columns a ; row 00 : 0 ;", 2, "00")
        self.assert_fault_at("columns a ; row 1 : 01 ;", 2, "01")
        self.assert_right("columns a ; row 1 : 10 ;", 1, 1, 0)
        self.assert_fault_at("columns a ; row 1 : -00 ;", 2, "00")

    def test_bytes_that_begin_no_token(self):
        for byte in (0, 11, 13, 31, 33, 34, 36, 43, 46, 47, 60, 64, 91, 95, 96, 123, 127, 128, 255):
            self.assert_fault(list(b"columns a ") + [byte, 59], 2, 10)

    def test_names_and_numbers_end_where_others_begin(self):
        self.assert_fault("columns a_b ;", 2, 9)
        self.assert_fault("columns a9Z[ ;", 2, 11)
        self.assert_right("columns a9Z,zZ0 ;", 2, 0, 0)
        self.assert_fault("columns 1a ;", 3, 8)
        self.assert_fault("columns a ; row 1b : 2 ;", 3, 17)
        self.assert_right("columns a;row 1:2;ask a times 3;row 4:5;", 1, 2, 1)
        self.assert_fault("columns a ; row 0:1;row0:1;", 3, 20)

    def test_a_place_without_a_token_comes_before_other_faults(self):
        self.assert_fault("row a, a ; ask ; 007", 2, 17)
        self.assert_fault("columns a, a ; ?", 2, 15)
        self.assert_fault("? columns 01", 2, 0)
        self.assert_fault("columns a ; row 1 : 01 ; !", 2, 20)

    def test_the_length_comes_before_all(self):
        self.assert_fault("!" + " " * 4096, 1, 4096)


class TokensNotAllowed(LoadCase):
    def test_no_text(self):
        self.assert_fault("", 3, 0)
        self.assert_fault("  # nothing", 3, 11)

    def test_another_beginning(self):
        self.assert_fault(" row 1 : 1 ;", 3, 1)
        self.assert_fault("a ;", 3, 0)
        self.assert_fault(";", 3, 0)

    def test_columns_that_go_wrong(self):
        self.assert_fault("columns ;", 3, 8)
        self.assert_fault("columns , a ;", 3, 8)
        self.assert_fault("columns a b ;", 3, 10)
        self.assert_fault("columns a : ;", 3, 10)
        self.assert_fault("columns a, , b ;", 3, 11)
        for word in ("columns", "row", "ask", "times"):
            self.assert_fault(f"columns a, {word} ;", 3, 11)

    def test_a_comma_behind_the_last_name(self):
        self.assert_fault("columns a, ;", 3, 11)
        self.assert_fault("columns a, b, c, d, ;", 3, 20)
        self.assert_fault("columns a ; ask a, ;", 3, 19)
        self.assert_fault("columns a ; ask a, times 2 ;", 3, 19)

    def test_a_comma_behind_the_last_number_of_a_row(self):
        self.assert_fault("columns a ; row 1, : 1 ;", 3, 17)
        self.assert_fault("columns a, b ; row 1, 2, 3 : 1 ;", 3, 23)

    def test_rows_that_go_wrong(self):
        self.assert_fault("columns a ; row : 1 ;", 3, 16)
        self.assert_fault("columns a, b ; row 1 : 1 ;", 3, 21)
        self.assert_fault("columns a, b ; row 1 2 : 1 ;", 3, 21)
        self.assert_fault("columns a ; row -1 : 1 ;", 3, 16)
        self.assert_fault("columns a ; row a : 1 ;", 3, 16)
        self.assert_fault("columns a ; row 1 ; ", 3, 18)
        self.assert_fault("columns a ; row 1 : ;", 3, 20)
        self.assert_fault("columns a ; row 1 : -- 1 ;", 3, 21)
        self.assert_fault("columns a ; row 1 : - ;", 3, 22)
        self.assert_fault("columns a ; row 1 : 1 - ;", 3, 22)
        self.assert_fault("columns a ; row 1 : 1, 2 ;", 3, 21)

    def test_questions_that_go_wrong(self):
        self.assert_fault("columns a ; ask , a ;", 3, 16)
        self.assert_fault("columns a ; ask 1 ;", 3, 16)
        self.assert_fault("columns a ; ask a 3 ;", 3, 18)
        self.assert_fault("columns a ; ask a a ;", 3, 18)
        self.assert_fault("columns a ; ask times ;", 3, 22)
        self.assert_fault("columns a ; ask times a ;", 3, 22)
        self.assert_fault("columns a ; ask times -1 ;", 3, 22)
        self.assert_fault("columns a ; ask times 2 3 ;", 3, 24)
        self.assert_fault("columns a ; ask a times 2, a ;", 3, 25)
        self.assert_fault("columns a ; ask times 2 times 2 ;", 3, 24)

    def test_what_is_no_row_and_no_question(self):
        self.assert_fault("columns a ; columns b ;", 3, 12)
        self.assert_fault("columns a ; ; ", 3, 12)
        self.assert_fault("columns a ; b ;", 3, 12)
        self.assert_fault("columns a ; row 1 : 1 ; times 2 ;", 3, 24)
        self.assert_fault("columns a ; ask ; 5", 3, 18)

    def test_the_end_in_the_middle(self):
        tokens = "columns a , b ; row 1 , 2 : - 3 ; ask a , b times 4 ;".split(" ")
        whole = (5, 13, len(tokens))
        for how_many in range(len(tokens) + 1):
            text = " ".join(tokens[:how_many]) + " # end\n "
            if how_many in whole:
                self.assertEqual(loaded(text)[0], 1, text)
            else:
                self.assert_fault(text, 3, len(text))


class TooMany(LoadCase):
    def test_four_columns_and_five(self):
        self.assert_right("columns a, b, c, d ;", 4, 0, 0)
        self.assert_fault_at("columns a, b, c, d, e ;", 4, "e")

    def test_a_fifth_column_told_before(self):
        self.assert_fault("columns a, b, c, d, a ;", 4, 20)

    def test_a_fifth_column_that_is_no_name(self):
        self.assert_fault("columns a, b, c, d, row ;", 3, 20)
        self.assert_fault("columns a, b, c, d e ;", 3, 19)

    def test_16_rows_and_17(self):
        self.assert_right("columns a ; " + rows_text(16), 1, 16, 0)
        self.assert_fault_at("columns a ; " + rows_text(17), 4, "row")
        self.assert_fault_at("columns a ; " + rows_text(16) + " row ask", 4, "row")

    def test_8_questions_and_9(self):
        self.assert_right("columns a ; " + "ask ; " * 8, 1, 0, 8)
        self.assert_fault_at("columns a ; " + "ask ; " * 9, 4, "ask")
        self.assert_fault_at("columns a ; " + "ask ; " * 8 + "ask row", 4, "ask")

    def test_rows_and_questions_are_counted_apart(self):
        self.assert_right("columns a ; " + "ask ; row 0 : 1 ; " * 8 + rows_text(8), 1, 16, 8)
        self.assert_fault_at("columns a ; " + "ask ; row 0 : 1 ; " * 8 + rows_text(8) + " ask ;", 4, "ask")


class NamesAndBounds(LoadCase):
    def test_a_column_told_before(self):
        self.assert_fault("columns a, a ;", 5, 11)
        self.assert_fault("columns a, b, c, b ;", 5, 17)
        self.assert_right("columns a, aa, aaa ;", 3, 0, 0)

    def test_a_column_that_stands_before_in_the_question(self):
        self.assert_fault("columns a, b ; ask a, a ;", 6, 22)
        self.assert_fault("columns a, b ; ask b, a, b times 2 ;", 6, 25)
        self.assert_right("columns a, b ; ask a ; ask a, b ; ask a ;", 2, 0, 3)
        self.assert_fault("columns a, b, c, d ; ask a, b, c, d, c ;", 6, 37)

    def test_a_name_that_is_no_column(self):
        self.assert_fault("columns a ; ask b ;", 8, 16)
        self.assert_fault("columns a, b ; ask a, b, A ;", 8, 25)
        self.assert_fault("columns ab ; ask a ;", 8, 17)
        self.assert_fault("columns a ; ask b, b ;", 8, 16)
        self.assert_fault("columns a, b, c, d ; ask a, b, c, d, e ;", 8, 37)

    def test_a_rows_number_of_9_and_10(self):
        self.assert_right("columns a, b ; row 9, 9 : 1 ; row 0, 0 : 1 ;", 2, 2, 0)
        self.assert_fault("columns a, b ; row 10, 9 : 1 ;", 7, 19)
        self.assert_fault("columns a, b ; row 9, 10 : 1 ;", 7, 22)

    def test_what_is_summed_of_1000_and_1001(self):
        self.assert_right("columns a ; row 0 : 1000 ; row 0 : -1000 ; row 0 : - # far\n 1000 ;", 1, 3, 0)
        self.assert_fault("columns a ; row 0 : 1001 ;", 7, 20)
        self.assert_fault("columns a ; row 0 : -1001 ;", 7, 21)
        self.assert_fault("columns a ; row 0 : -  1001 ;", 7, 23)

    def test_what_is_summed_may_be_minus_zero(self):
        self.assert_right("columns a ; row 0 : -0 ; row 0 : 0 ;", 1, 2, 0)

    def test_times_0_1_99_and_100(self):
        self.assert_fault("columns a ; ask times 0 ;", 7, 22)
        self.assert_right("columns a ; ask times 1 ; ask a times 99 ;", 1, 0, 2)
        self.assert_fault("columns a ; ask a times 100 ;", 7, 24)


class TwoFaults(LoadCase):
    def test_the_one_further_left_is_told(self):
        self.assert_fault("columns a, a ; row 10 : 1 ;", 5, 11)
        self.assert_fault("columns a ; row 10 : 1001 ;", 7, 16)
        self.assert_fault("columns a ; row 10, : 1 ;", 7, 16)
        self.assert_fault("columns a ; ask b, a, a ;", 8, 16)
        self.assert_fault("columns a ; ask a, a, b ;", 6, 19)
        self.assert_fault("columns a ; ask a times 100 3 ;", 7, 24)
        self.assert_fault("columns a ; ask a, b times 0 ;", 8, 19)
        self.assert_fault("columns a ; row 1 , ; row 10 : 1 ;", 3, 18)
        self.assert_fault("columns a, b, a, c, d, e ;", 5, 14)
        self.assert_fault("columns a ; " + rows_text(15) + " row 10 : 1 ; row 0 : 1 ;", 7, 12 + 15 * 12 + 4)


if __name__ == "__main__":
    unittest.main()
