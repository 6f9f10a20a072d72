import itertools
import random
import unittest

from lyinghouse.errors import BadText, BadValue, BadValues
from lyinghouse.values import (
    all_seals, first_values, handed_on, is_seal, is_value, read_value, seals_in, value_text)
from samples import nested, odd_values, raised, raises_with

VALUES = [
    None, 0, 7, -3, 10 ** 18, -10 ** 18, 999999999999999999, "", "a b", "\n", "~ ", "(n)", "s1:", "i1;", "seal",
    (), (None,), ((),), (1, ("a", None), ()), ("x", "y", "x"), nested(29), nested(29, ("a", 1)), "x" * 100000,
]
NO_VALUES = [
    True, False, [], [1], {}, {"a": 1}, 10 ** 18 + 1, -10 ** 18 - 1, 10 ** 39, "\t", "a\tb", "x" * 100001,
    nested(30), nested(59), nested(31, 1), nested(30, True), nested(60, []), ((), [1]), (1, (True,)), ("a", ("\t",)),
]


class IsValue(unittest.TestCase):

    def test_values(self):
        for value in VALUES:
            self.assertIs(is_value(value), True)

    def test_no_values(self):
        for value in NO_VALUES:
            self.assertIs(is_value(value), False)

    def test_depths(self):
        # () has a depth of 1, a tuple around None too.
        self.assertIs(is_value(nested(29)), True)
        self.assertIs(is_value(nested(30)), False)
        self.assertIs(is_value(nested(30, None)), True)
        self.assertIs(is_value(nested(31, None)), False)
        self.assertIs(is_value((1, nested(29, None), 2)), True)
        self.assertIs(is_value((1, nested(29, None), nested(30, "x"))), False)

    def test_any_value_at_any_place_of_a_tuple(self):
        for odd in odd_values():
            for place in range(3):
                parts = [None, "a", 1]
                parts[place] = odd
                expected = is_value(odd) and odd != nested(29)
                self.assertIs(is_value(tuple(parts)), expected)
                self.assertIs(is_value(list(parts)), False)
                self.assertIs(is_value({"a": odd}), False)


class Texts(unittest.TestCase):

    def test_table(self):
        self.assertEqual(value_text(None), "n")
        self.assertEqual([value_text(number) for number in (0, 12, -5)], ["i0;", "i12;", "i-5;"])
        self.assertEqual([value_text(string) for string in ("", "a:b", "\n")], ["s0:", "s3:a:b", "s1:\n"])
        self.assertEqual([value_text(row) for row in ((), (1, ("x",)))], ["()", "(i1;(s1:x))"])
        self.assertEqual(value_text("x" * 100000), "s100000:" + "x" * 100000)

    def test_bad_values(self):
        for value in NO_VALUES:
            self.assertTrue(raises_with(raised(value_text, value), BadValue, value))

    def test_texts_are_read_again(self):
        for value in VALUES:
            again = read_value(value_text(value))
            self.assertTrue(again == value and type(again) is type(value))

    def test_no_text_begins_another(self):
        texts = [value_text(value) for value in VALUES]
        for one, other in itertools.permutations(texts, 2):
            self.assertFalse(one.startswith(other))


def place_by_signs(text):
    """How many signs can stand, and whether they are a whole text: sign by sign, apart from the program."""
    mode, figures, left, depth = "value", "", 0, 0
    for at, sign in enumerate(text):
        ended = False
        if mode == "value" and sign == "n" or mode == "integer" and sign == ";" and figures not in ("", "-"):
            ended = True
        elif mode == "value" and sign in "is":
            mode, figures = {"i": "integer", "s": "length"}[sign], ""
        elif mode == "value" and sign == "(" and depth < 30:
            depth += 1
        elif mode == "value" and sign == ")" and depth > 0:
            depth -= 1
            ended = True
        elif mode == "integer" and sign == "-" and figures == "":
            figures = "-"
        elif mode == "integer" and sign.isdigit() and figures != "0" and figures + sign != "-0" \
                and abs(int(figures + sign)) <= 10 ** 18:
            figures += sign
        elif mode == "length" and sign.isdigit() and figures != "0" and int(figures + sign) <= 10 ** 5:
            figures += sign
        elif mode == "length" and sign == ":" and figures != "":
            mode, left = "string", int(figures)
            ended = left == 0
        elif mode == "string" and (" " <= sign <= "~" or sign == "\n"):
            left -= 1
            ended = left == 0
        else:
            return at, False
        if ended:
            mode = "value" if depth > 0 else "over"
    return len(text), mode == "over"


class Reading(unittest.TestCase):

    def check(self, text):
        place, is_whole = place_by_signs(text)
        if is_whole:
            self.assertEqual(value_text(read_value(text)), text)
        else:
            self.assertTrue(raises_with(raised(read_value, text), BadText, place), text[:100])

    def test_no_strings(self):
        for value in odd_values():
            if not isinstance(value, str):
                self.assertTrue(raises_with(raised(read_value, value), BadText, None))
                self.assertTrue(raises_with(raised(first_values, value), BadText, None))

    def test_places(self):
        for text, place in [
            ("", 0), ("x", 0), (")", 0), ("nn", 1), ("i", 1), ("i;", 1), ("i-", 2), ("i-;", 2), ("i-0;", 2),
            ("i00;", 2), ("i07;", 2), ("i0", 2), ("i+1;", 1), ("i1 ;", 2), ("i1;n", 3), ("i1_0;", 2), ("--", 0),
            ("i--1;", 2), ("s", 1), ("s:", 1), ("s-1:", 1), ("s00:", 2), ("s01:a", 2), ("s2:a", 4), ("s1:ab", 4),
            ("s2:a\tb", 4), ("s3:\n\t", 4), ("s9:ab\t", 5), ("(", 1), ("(n", 2), ("(n;", 2), ("()n", 2), ("())", 2),
            ("(i1;)(", 5), ("(s1:)", 5), ("(s2:))", 6), ("N", 0), (" n", 0), ("n ", 1), ("n\n", 1), ("(,)", 1),
        ]:
            self.assertTrue(raises_with(raised(read_value, text), BadText, place), text)
            self.check(text)

    def test_great_numbers(self):
        most = str(10 ** 18)
        for sign in ("", "-"):
            self.assertEqual(read_value(f"i{sign}{most};"), int(sign + most))
            begin = len(sign) + 1
            for digits, place in [
                ("1000000000000000001", 18), ("1000000000000000010", 18), ("1" + "0" * 16 + "100", 18), ("2000000000000000000", 18),
                ("10000000000000000000", 19), ("9" * 18 + "0", 18), ("9" * 5000, 18), ("1" + "0" * 199000, 19),
            ]:
                error = raised(read_value, f"i{sign}{digits};")
                self.assertTrue(raises_with(error, BadText, begin + place), digits[:30])
            self.check(f"i{sign}{'9' * 18};")
            self.check(f"i{sign}{most}")

    def test_lengths_with_many_figures(self):
        whole = "s100000:" + "x" * 100000
        self.assertEqual(read_value(whole), "x" * 100000)
        for text, place in [
            (whole[:-1], 100007), (whole + "x", 100008), ("s100000" + "0" * 5000 + ":", 7), ("s100001:", 6),
            ("s999999:", 6), ("s" + "9" * 5000, 6), ("s" + "0" * 5000, 2), ("s99999" + ":" + "y" * 10, 17),
            ("s99999" + ":" + "y" * 10 + "\t" + "y", 17), ("s1000000:", 7), ("s200000:" + "x" * 200000, 6),
        ]:
            self.assertTrue(raises_with(raised(read_value, text), BadText, place), text[:30])
            self.check(text)

    def test_depths(self):
        self.assertEqual(read_value("(" * 30 + ")" * 30), nested(29))
        self.assertEqual(read_value("(" * 30 + "n" + ")" * 30), nested(30, None))
        for text, place in [
            ("(" * 31 + ")" * 31, 30), ("(" * 30 + "n(", 31), ("(" * 30 + ")(" * 3, 36), ("(" * 30 + ")((", 32), ("(" * 30, 30),
            ("(" * 199000, 30), ("(()" + "(" * 40, 32),
        ]:
            self.assertTrue(raises_with(raised(read_value, text), BadText, place), text[:50])
            self.check(text)

    def test_all_short_strings(self):
        for many in range(6):
            for signs in itertools.product("ni01-;s:(a)", repeat=many):
                self.check("".join(signs))

    def test_texts_with_a_sign_changed(self):
        chance = random.Random(5)
        texts = [value_text(value) for value in VALUES if value != "x" * 100000]
        texts = texts + ["(" + "".join(texts[:12]) + ")", "(s5:ab\ncd(i-12;i345;)s12:abcdefghijkl)"]
        for text in texts:
            for _ in range(60):
                at = chance.randrange(len(text))
                self.check(text[:at] + chance.choice("ni01-;s:(a)9\t\n ") + text[at + chance.randrange(2):])
                self.check(text[:at])


class FirstValues(unittest.TestCase):

    def test_any_cut_of_rows(self):
        rows = [(), (None,), (1, "ab", (None, ())), ("", "", 0), ("a\nb", (("x",),), -10 ** 18, nested(29)), ((), ())]
        for row in rows:
            texts = [value_text(value) for value in row]
            text = "".join(texts)
            for cut in range(len(text) + 1):
                whole = len([1 for many in range(1, len(texts) + 1) if len("".join(texts[:many])) <= cut])
                expected = (row[:whole], len("".join(texts[:whole])))
                self.assertEqual(first_values(text[:cut]), expected)

    def test_what_stands_behind_is_left(self):
        for text, expected in [
            ("", ((), 0)), ("x", ((), 0)), ("nxn", ((None,), 1)), ("i1;i07;", ((1,), 3)), (")n", ((), 0)),
            ("n" + "(" * 31 + ")" * 31, ((None,), 1)), ("s1:\tn", ((), 0)), ("ns3:ab", ((None,), 1)), ("n\n", ((None,), 1)),
            ("nni-0;n", ((None, None), 2)), ("i1000000000000000001;", ((), 0)), ("s100001:" + "x" * 100001, ((), 0)),
        ]:
            self.assertEqual(first_values(text), expected, text[:40])

    def test_long_ones(self):
        values, many = first_values("n" * 200000)
        self.assertEqual((len(values), many), (200000, 200000))
        self.assertEqual(first_values("(" * 200000), ((), 0))
        self.assertEqual(first_values("i" + "9" * 199999), ((), 0))


X = ("seal", "bob", "x")
ANN = ("seal", "ann", (1, X))


class Seals(unittest.TestCase):

    def test_is_seal(self):
        for value in [X, ANN, ("seal", "a", None), ("seal", "abcdefgh", ()), ("seal", "zz", nested(28)), ("seal", "n", X)]:
            self.assertIs(is_seal(value), True)
        for value in [
            ("seal", "Ann", 1), ("seal", "", 1), ("seal", "abcdefghi", 1), ("seal", "a b", 1), ("seal", "a1", 1),
            ("seal", "ann\n", 1), ("seal", "ann"), ("seal", "ann", 1, 2), ("Seal", "ann", 1), ("seals", "ann", 1),
            ("seal", "ann", True), ("seal", "ann", [1]), ("seal", ("ann",), 1), ("seal", 1, 1), ["seal", "ann", 1],
            ("seal", "zz", nested(29)), (("seal",), "ann", 1), "seal", (), None, (ANN,), ("seal", None, 1),
        ]:
            self.assertIs(is_seal(value), False)

    def test_any_value_at_any_place(self):
        for odd in odd_values():
            self.assertIs(is_seal(odd), False)
            self.assertIs(is_seal(("seal", "ann", odd)), is_value(("seal", "ann", odd)))
            self.assertIs(is_seal((odd, "ann", 1)), isinstance(odd, str) and odd == "seal")
            self.assertIs(is_seal(("seal", odd, 1)), isinstance(odd, str) and odd in ("a", "ann", "seal", "make"))

    def test_outermost(self):
        self.assertEqual(seals_in(ANN), (ANN,))
        self.assertEqual(seals_in((X, (ANN, 1, (X,)), "y")), (X, ANN, X))
        self.assertEqual(seals_in(("seal", "Bob", (X, ANN))), (X, ANN))
        for value in (None, 1, "seal", (), (1, ("a",)), ("seal", "ann")):
            self.assertEqual(seals_in(value), ())

    def test_all(self):
        deep = ("seal", "cid", (ANN, X))
        self.assertEqual(all_seals((deep, 1, X)), (deep, ANN, X, X, X))
        self.assertEqual(all_seals(ANN), (ANN, X))
        self.assertEqual(all_seals((("seal", "Bob", ANN),)), (ANN, X))
        self.assertEqual(all_seals((X, X)), (X, X))
        for value in (None, 1, "seal", (), (1, ("a",))):
            self.assertEqual(all_seals(value), ())

    def test_all_by_the_places_of_their_texts(self):
        value = (1, ("seal", "cid", (X, ("seal", "dan", ("seal", "eve", 3)), X)), ANN)
        text, at = value_text(value), -1
        for seal in all_seals(value):
            at = text.index(value_text(seal), at + 1)
        self.assertEqual(len(all_seals(value)), text.count("s4:seal"))

    def test_bad_values(self):
        for value in NO_VALUES:
            for call in (seals_in, all_seals):
                self.assertTrue(raises_with(raised(call, value), BadValue, value))


class HandedOn(unittest.TestCase):

    def test_what_may_be_said(self):
        for got, value, expected in [
            ((), None, True), ((), ("a", 1), True), ((), X, False), ((X,), X, True), ((X,), (X, 1, X), True),
            ((ANN,), X, True), ((ANN,), (1, (X, ANN)), True), ((X,), ANN, False), ((X, 1), ("seal", "ann", (1, X)), False),
            ((X,), ("seal", "bob", "y"), False), ((X,), ("seal", "cid", "x"), False), ((("a", (ANN,)),), X, True),
            ((X,), (X, ("seal", "bob", "y")), False), ((), ("seal", "Bob", 1), True), ((), ("seal", "Bob", X), False),
            ((("seal", "bob", "s1:x"),), X, False), (("(s4:seals3:bobs1:x)",), X, False),
            ((("seal", "bob", 1),), ("seal", "bob", "1"), False), ((("seal", "bob", ()),), ("seal", "bob", ((),)), False),
        ]:
            self.assertIs(handed_on(got, value), expected, (got, value))

    def test_errors(self):
        for got in [None, [], [X], {}, True, 1, "", X + (True,), ((1, [2]),), (nested(30),), (X, nested(31, 1)), ("\t",)]:
            self.assertTrue(raises_with(raised(handed_on, got, 1), BadValues, got))
            self.assertTrue(raises_with(raised(handed_on, got, [1]), BadValues, got))
        for value in NO_VALUES:
            self.assertTrue(raises_with(raised(handed_on, (X,), value), BadValue, value))

    def test_any_value_at_any_place(self):
        for odd in odd_values():
            error = raised(handed_on, (X, odd, None), 1)
            self.assertTrue(error is None if is_value(odd) else type(error) is BadValues)
            error = raised(handed_on, (), (X, odd))
            self.assertTrue(error is None if is_value((odd,)) else type(error) is BadValue)

    def test_got_may_be_deeper_than_a_value(self):
        self.assertIs(handed_on((nested(29), nested(26, X)), X), True)

    def test_more_got_more_said(self):
        made = [X, ANN, ("seal", "cid", X), (1, ANN), "x", ("seal", "cid", ())]
        for many in range(3):
            for got in itertools.product(made, repeat=many):
                for value in made:
                    expected = all(seal in all_seals(got) for seal in seals_in(value))
                    self.assertIs(handed_on(got, value), expected)
                    if expected:
                        self.assertIs(handed_on(got + (X,), value), True)
                        # Whoever got only this may say no more than who got what it came of.
                        for later in made:
                            self.assertTrue(handed_on(got, later) or not handed_on((value,), later))

    def test_many_seals_in_one_another(self):
        value = tuple(range(5000))
        for _ in range(28):
            value = ("seal", "ann", value)
        got = all_seals(value)
        self.assertEqual(len(got), 28)
        self.assertIs(handed_on(got, value), True)
        self.assertIs(handed_on(got[1:], value), False)


if __name__ == "__main__":
    unittest.main()
