import unittest

from lyinghouse.kinds import are_counts, is_block, is_clean, is_integer, is_name, is_names, number_in
from samples import odd_values


class Kinds(unittest.TestCase):

    def test_integers(self):
        for value, expected in [(0, True), (5, True), (-1, False), (6, False), (True, False), (False, False), ("1", False), (None, False)]:
            self.assertIs(is_integer(value, 0, 5), expected)

    def test_names(self):
        for value, expected in [("a", True), ("z", True), ("abcdefgh", True), ("abcdefghi", False), ("", False), ("Ann", False),
                                ("an n", False), ("ann\n", False), ("a1", False), ("a_", False), ("anN", False)]:
            self.assertIs(is_name(value), expected)
        for odd in odd_values():
            self.assertIs(is_name(odd), isinstance(odd, str) and odd in ("a", "ann", "seal", "make"))

    def test_names_of_desks(self):
        for value, expected in [(("a", "b"), True), (("a", "b", "c", "d", "e"), True), (("ann", "anna"), True), (("a",), False), ((), False),
                                (("a", "b", "c", "d", "e", "f"), False), (("b", "a"), False), (("a", "a"), False), (["a", "b"], False),
                                (("a", "B"), False), (("a", 1), False), (("", "a"), False), ("ab", False), (("a", None), False)]:
            self.assertIs(is_names(value), expected, value)
        for odd in odd_values():
            self.assertIs(is_names(odd), False)
            self.assertIs(is_names(("a", odd)), isinstance(odd, str) and odd in ("ann", "seal", "make"))

    def test_counts(self):
        for value, expected in [((0, 0), True), ((10 ** 9, 1), True), ((10 ** 9 + 1, 1), False), ((0, -1), False), ((0, True), False), ((0, "1"), False),
                                ((0,), False), ((0, 0, 0), False), ([0, 0], False), ((), False), (0, False)]:
            self.assertIs(are_counts(value, 2), expected, value)

    def test_names_of_blocks(self):
        for value, expected in [(("ann", 0), True), (("a", 10 ** 18), True), (("ann", 10 ** 18 + 1), False), (("ann", -1), False), (("ann", True), False),
                                (("ann", "0"), False), (("Ann", 0), False), (["ann", 0], False), (("ann",), False), (("ann", 0, 0), False), ((0, "ann"), False)]:
            self.assertIs(is_block(value), expected, value)
        for odd in odd_values():
            self.assertIs(is_block(odd), False)

    def test_clean_strings(self):
        for text, expected in [("", True), ("\n", True), (" ~", True), ("a\nb\n", True), ("\t", False), ("a\tb", False)]:
            self.assertIs(is_clean(text), expected)

    def test_numbers_in_texts(self):
        for word, expected in [("0", 0), ("7", 7), ("10", 10), ("999999999", 999999999)]:
            self.assertEqual(number_in(word), expected)
        for word in ["", "00", "07", "-1", "+1", "1 ", " 1", "1_0", "1.", "x", "1000000000", "0000000001", "9" * 5000, "1\n"]:
            self.assertIsNone(number_in(word))


if __name__ == "__main__":
    unittest.main()
