import unittest

from lyinghouse.discs import done_steps, is_image, left_by, new_image, open_writes
from lyinghouse.errors import BadChoices, BadImage, BadNumber, BadSteps
from samples import odd_values, raised, raises_with

A, B, C = "a" * 64, "b" * 64, "c" * 64
FENCE = ("fence",)


class Images(unittest.TestCase):

    def test_is_image(self):
        for value, expected in [
            ((A,), True), ((A, "\n" * 64), True), ((" ~" * 32,), True), (("a" * 63,), False), (("a" * 65,), False), ((), False), ([A], False),
            ((A, None), False), ((A, "\t" + "a" * 63), False), ((A, 1), False), (A, False), ((A,) * 20000, True), ((A,) * 20001, False), ((A, [A]), False),
        ]:
            self.assertIs(is_image(value), expected)
        for odd in odd_values():
            self.assertIs(is_image(odd), False)
            self.assertIs(is_image((A, odd)), False)

    def test_new_image(self):
        self.assertEqual(new_image(1), (" " * 64,))
        self.assertEqual(new_image(20000), (" " * 64,) * 20000)
        for odd in odd_values() + [0, -1, 20001]:
            if not (type(odd) is int and 1 <= odd <= 20000):
                self.assertTrue(raises_with(raised(new_image, odd), BadNumber, odd))


class Steps(unittest.TestCase):

    def test_done(self):
        steps = (("write", 1, A), FENCE, ("write", 1, B), ("write", 0, C))
        self.assertEqual(done_steps((A, C, C), steps), (C, B, C))
        self.assertEqual(done_steps((A, B), ()), (A, B))
        self.assertEqual(done_steps((A, B), (FENCE, FENCE)), (A, B))

    def test_open_writes(self):
        one, other = ("write", 0, A), ("write", 1, B)
        for steps, numbers in [((), ()), ((FENCE,), ()), ((one,), (0,)), ((one, other), (0, 1)), ((one, FENCE), ()), ((one, FENCE, other, one), (2, 3)),
                               ((FENCE, one, FENCE, FENCE, one), (4,))]:
            self.assertEqual(open_writes((A, B), steps), numbers)

    def test_left(self):
        steps = (("write", 0, B), FENCE, ("write", 0, C), ("write", 1, C))
        self.assertEqual(left_by((A, A), steps, (0, 0)), (B, A))
        self.assertEqual(left_by((A, A), steps, (64, 0)), (C, A))
        self.assertEqual(left_by((A, A), steps, (3, 63)), ("ccc" + "b" * 61, "c" * 63 + "a"))
        self.assertEqual(left_by((A, A), steps[:1], (10,)), ("b" * 10 + "a" * 54, A))
        self.assertEqual(left_by((A, A), steps[:2], ()), (B, A))
        self.assertEqual(left_by((A, A), (), ()), (A, A))

    def test_bad_images_come_first(self):
        for odd in odd_values() + [(), ("a",), [A]]:
            self.assertTrue(raises_with(raised(done_steps, odd, None), BadImage, odd))
            self.assertTrue(raises_with(raised(open_writes, odd, None), BadImage, odd))
            self.assertTrue(raises_with(raised(left_by, odd, None, None), BadImage, odd))

    def test_bad_steps(self):
        good = ("write", 0, A)
        for steps, value in [
            (None, None), ([], None), ([good], None), ("", None), ({}, None), (good, 0), ((good, good), 1), ((good, ("write", 1, A), good), 2),
            ((good, FENCE, good, good), 3), ((("write", 2, A),), 0), ((("write", -1, A),), 0), ((("write", True, A),), 0), ((("write", 0, "a"),), 0),
            ((("write", 0, A, A),), 0), ((("write", 0),), 0), ((("Write", 0, A),), 0), ((good, ("fence", 0)), 1), ((good, "fence"), 1), ((["fence"],), 0),
            ((FENCE, ()), 1), ((("fences",),), 0), ((good, ["write", 1, A]), 1), ((("write", "0", A),), 0), ((("write", 0, "\t" * 64),), 0), (((1, 0, A),), 0),
        ]:
            for call, args in ((done_steps, ()), (open_writes, ()), (left_by, (None,))):
                self.assertTrue(raises_with(raised(call, (A, B), steps, *args), BadSteps, value), steps)
        for odd in odd_values():
            self.assertTrue(raises_with(raised(done_steps, (A, B), (good, odd)), BadSteps, 1))
            self.assertTrue(raises_with(raised(done_steps, (A, B), (("write", odd, A),)), BadSteps, 0) or odd in (0, 1) and type(odd) is int)
            self.assertTrue(raises_with(raised(done_steps, (A, B), (("write", 0, odd),)), BadSteps, 0))

    def test_bad_choices(self):
        steps = (("write", 0, A), FENCE, ("write", 0, B), ("write", 1, B))
        for choices in [None, (), (0,), (0, 0, 0), [0, 0], (0, 65), (-1, 0), (True, 0), (0, False), (0, "1"), (0, None), (0, (1,)), "00"]:
            self.assertTrue(raises_with(raised(left_by, (A, B), steps, choices), BadChoices, choices))
        for odd in odd_values():
            self.assertTrue(raises_with(raised(left_by, (A, B), steps, odd), BadChoices, odd))
            error = raised(left_by, (A, B), steps, (odd, 64))
            self.assertTrue(error is None if type(odd) is int and 0 <= odd <= 64 else raises_with(error, BadChoices, (odd, 64)))

    def test_arguments_may_be_named(self):
        steps = (("write", 0, A),)
        self.assertTrue(is_image(value=new_image(sectors=1)))
        self.assertEqual(done_steps(image=(B,), steps=steps), (A,))
        self.assertEqual(open_writes(image=(B,), steps=steps), (0,))
        self.assertEqual(left_by(image=(B,), steps=steps, choices=(1,)), ("a" + "b" * 63,))


if __name__ == "__main__":
    unittest.main()
