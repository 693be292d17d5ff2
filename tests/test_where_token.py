"""where: faults of cutting, each at its position, and what can just be cut."""

import unittest

from buildtext.desk import where
from tests.support import codes, plain_of, where_of

LETTERS = "abcdefghijklmnopqrstuvwxyzABCDEFGHIJKLMNOPQRSTUVWXYZ_"


class Words(unittest.TestCase):
    def test_each_letter_begins_a_word(self):
        for letter in LETTERS:
            with self.subTest(letter):
                self.assertEqual(where_of(letter + ";"), [0, 0])
                self.assertEqual(plain_of(letter + "9" + letter + ";"), letter + "9" + letter + ";\n")

    def test_neighbours_of_letters_are_none(self):
        for sign in "@`{|[^~\x7f\xc4":
            with self.subTest(sign):
                self.assertNotEqual(where_of("a" + sign + "a;"), [0, 0])

    def test_length(self):
        self.assertEqual(where_of("a = 1; " + "b" * 32 + ";"), [0, 0])
        self.assertEqual(where_of("a = 1; " + "b" * 33 + ";"), [2, 7])
        self.assertEqual(where_of("a = 1; b" + "0" * 31 + ";"), [0, 0])
        self.assertEqual(where_of("a = 1; b" + "0" * 32 + ";"), [2, 7])
        self.assertEqual(where_of("b" * 32 + " " + "c" * 33), [2, 33])

    def test_a_word_up_to_the_end(self):
        self.assertEqual(where_of("b" * 32), [3, 32])
        self.assertEqual(where_of("b" * 33), [2, 0])

    def test_kept_words_are_no_names(self):
        for word in "load def if else for in return or and not true false none".split():
            with self.subTest(word):
                self.assertEqual(where_of("a." + word + ";"), [3, 2])
                self.assertEqual(where_of("a." + word + "s;"), [0, 0])
                self.assertEqual(where_of("a.s" + word + ";"), [0, 0])
                self.assertEqual(where_of("a." + word.upper() + ";"), [0, 0])

    def test_other_words_are_names(self):
        for word in ["name", "number", "text", "end", "percent", "while", "True", "None", "_", "__a1"]:
            with self.subTest(word):
                self.assertEqual(where_of(word + " = 1;"), [0, 0])


class Numbers(unittest.TestCase):
    def test_a_zero_before_other_digits(self):
        self.assertEqual(where_of("x = 0;"), [0, 0])
        self.assertEqual(where_of("x = 00;"), [2, 4])
        self.assertEqual(where_of("x = 01;"), [2, 4])
        self.assertEqual(where_of("x = 10;"), [0, 0])
        self.assertEqual(where_of("x = 100200;"), [0, 0])
        self.assertEqual(where_of("x = 1 0;"), [3, 6])

    def test_digits_and_worth(self):
        self.assertEqual(where_of("x = " + "9" * 18 + ";"), [0, 0])
        self.assertEqual(where_of("x = 1" + "0" * 18 + ";"), [0, 0])
        self.assertEqual(where_of("x = 1" + "0" * 17 + "1;"), [2, 4])
        self.assertEqual(where_of("x = " + "1" * 19 + ";"), [2, 4])
        self.assertEqual(where_of("x = 1" + "0" * 19 + ";"), [2, 4])
        self.assertEqual(where_of("x = " + "0" * 20 + ";"), [2, 4])
        self.assertEqual(where_of("x = " + "9" * 4000 + ";"), [2, 4])

    def test_a_number_ends_where_its_digits_end(self):
        self.assertEqual(where_of("1a;"), [3, 1])
        self.assertEqual(where_of("1.a;"), [0, 0])
        self.assertEqual(where_of("1.5;"), [3, 2])
        self.assertEqual(where_of("x = 0x1;"), [3, 5])
        self.assertEqual(where_of("9"), [3, 1])


class Quoted(unittest.TestCase):
    def test_each_escape(self):
        for escape in ['\\"', "\\\\", "\\n", "\\t", "\\x00", "\\xff", "\\x09", "\\xa9", "\\x9a"]:
            with self.subTest(escape):
                self.assertEqual(where_of('f("a' + escape + 'b");'), [0, 0])
                self.assertEqual(where_of('f("' + escape + '");'), [0, 0])

    def test_wrong_escapes(self):
        for escape in [
            "\\a", "\\r", "\\0", "\\'", "\\N", "\\T", "\\X41", "\\ ", "\\x4g", "\\xg4",
            "\\x4A", "\\xA4", "\\x 4", "\\x4`", "\\x/4", "\\x:4", "\\u0041", "\\\n", "\\\xff",
        ]:
            with self.subTest(escape):
                self.assertEqual(where_of('f("a' + escape + '");'), [2, 2])
                self.assertEqual(where_of('f("a' + escape + 'bcd");'), [2, 2])
        for text in ['f("\\x");', 'f("\\x4");', 'f("\\x", "41");', 'f("\\x4", "1");']:
            with self.subTest(text):
                self.assertEqual(where_of(text), [2, 2])

    def test_each_byte_by_itself(self):
        for byte in range(256):
            text = codes('f("') + [byte] + codes('");')
            with self.subTest(byte):
                if byte == 34:
                    # The quoted text ends here; the other quote has no closing one.
                    self.assertEqual(where(text), [2, 4])
                elif 32 <= byte <= 126 and byte != 92:
                    self.assertEqual(where(text), [0, 0])
                else:
                    self.assertEqual(where(text), [2, 2])

    def test_without_the_closing_quote(self):
        for text in ['f("', 'f("a', 'f("a);', 'f("a\\', 'f("a\\"', 'f("a\\x', 'f("a\\x4', 'f("a\\x41', 'f("a\\\\\\"']:
            with self.subTest(text):
                self.assertEqual(where_of(text), [2, 2])

    def test_quotes_within_escapes_do_not_close(self):
        self.assertEqual(where_of('f("a\\"b");'), [0, 0])
        self.assertEqual(where_of('f("a\\\\");'), [0, 0])
        self.assertEqual(where_of('f("a\\\\\\"");'), [0, 0])
        self.assertEqual(where_of('f("a\\\\"");'), [2, 7])

    def test_bytes_told(self):
        for told, width in [("a", 1), ("\\n", 2), ('\\"', 2)]:
            with self.subTest(told):
                self.assertEqual(where_of('x = "' + told * 1024 + '";'), [0, 0])
                self.assertEqual(where_of('x = "' + told * 1025 + '";'), [2, 4])
        # 4 bytes of text for each one told: 1024 of them do not fit with the quotes.
        self.assertEqual(where_of('"' + "\\x41" * 1022 + '";'), [0, 0])
        self.assertEqual(where_of('"' + "\\x41" * 1000 + "a" * 24 + '";'), [0, 0])
        self.assertEqual(where_of('"' + "\\x41" * 1000 + "a" * 25 + '";'), [2, 0])

    def test_an_empty_one(self):
        self.assertEqual(where_of('"";'), [0, 0])

    def test_a_remark_sign_within_quotes_is_no_remark(self):
        self.assertEqual(where_of('f("#");'), [0, 0])


class SignsAndBlanks(unittest.TestCase):
    def test_each_byte_that_begins_nothing(self):
        begins = set(codes(LETTERS + '0123456789"# \t\n\r=<+-*/%()[]{},;:.'))
        for byte in range(256):
            with self.subTest(byte):
                for text in [codes("a; ") + [byte], codes("a; ") + [byte] + codes(" b;")]:
                    if byte in begins:
                        self.assertNotEqual(where(text), [2, 3] if byte != 34 else [0, 0])
                    else:
                        self.assertEqual(where(text), [2, 3])

    def test_signs_of_two_bytes(self):
        for text in ["a==b;", "a!=b;", "a<=b;", "a<b;", "a=b;"]:
            with self.subTest(text):
                self.assertEqual(where_of(text), [0, 0])
        self.assertEqual(where_of("a ! b;"), [2, 2])
        self.assertEqual(where_of("a ! = b;"), [2, 2])
        self.assertEqual(where_of("!"), [2, 0])
        self.assertEqual(where_of("a !"), [2, 2])
        self.assertEqual(where_of("a > b;"), [2, 2])
        self.assertEqual(where_of("a >= b;"), [2, 2])
        self.assertEqual(where_of("a <> b;"), [2, 3])
        self.assertEqual(where_of("a = = b;"), [3, 4])
        self.assertEqual(where_of("a < = b;"), [3, 4])
        self.assertEqual(where_of("a === b;"), [3, 4])
        self.assertEqual(where_of("a !== b;"), [3, 4])
        self.assertEqual(where_of("a <== b;"), [3, 4])
        self.assertEqual(where_of("a =< b;"), [3, 3])
        self.assertEqual(where_of("a =! b;"), [2, 3])
        self.assertEqual(where_of("a ="), [3, 3])
        self.assertEqual(where_of("a <"), [3, 3])

    def test_blanks_are_passed_over(self):
        self.assertEqual(where_of(" \t\n\rx\r\n=\t1 ;\n"), [0, 0])
        self.assertEqual(where_of("x = 1;\v"), [2, 6])
        self.assertEqual(where_of("x = 1;\f"), [2, 6])
        self.assertEqual(where_of("x = 1;\0"), [2, 6])
        self.assertEqual(where_of("x = 1;\xa0"), [2, 6])

    def test_remarks(self):
        self.assertEqual(where_of("# a remark"), [0, 0])
        self.assertEqual(where_of("#"), [0, 0])
        self.assertEqual(where_of("x = 1; # a \" ! \xff \0 \x0b"), [0, 0])
        self.assertEqual(where_of("x = # here\n 1;#\n#"), [0, 0])
        self.assertEqual(where_of("x # = 1;"), [3, 8])
        self.assertEqual(where_of("x # = 1;\r y"), [3, 11])
        self.assertEqual(where_of("x # a # b\n y;"), [3, 11])
        self.assertEqual(where_of("# remark\n!"), [2, 9])

    def test_the_whole_text_is_cut_first(self):
        self.assertEqual(where_of(") ) x = = !"), [2, 10])
        self.assertEqual(where_of("((((((((((((((((( ! ?"), [2, 18])
        self.assertEqual(where_of("return; 01"), [2, 8])

    def test_the_first_fault_of_cutting_counts(self):
        self.assertEqual(where_of('a 01 "'), [2, 2])
        self.assertEqual(where_of('a " 01 !'), [2, 2])
        self.assertEqual(where_of('a ! "'), [2, 2])


if __name__ == "__main__":
    unittest.main()
