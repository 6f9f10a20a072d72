import unittest

from lyinghouse.bag import Bag
from lyinghouse.errors import BadName, BadNumber, BadSeal, BadValue, NoBlock, OtherBody
from lyinghouse.values import is_value
from fetching import state
from samples import nested, odd_values, raised, raises_with


def seal(name, number, body):
    return ("seal", name, ("block", number, body))


class Bags(unittest.TestCase):

    def setUp(self):
        self.bag = Bag()

    def stays(self, call, args, kind, value):
        """The call raises this error, and the bag stays as it was."""
        before = state(self.bag)
        self.assertTrue(raises_with(raised(call, *args), kind, value), (call, args))
        self.assertEqual(state(self.bag), before)

    def test_a_new_bag(self):
        self.assertEqual((len(self.bag), self.bag.blocks, self.bag.next_number("ann")), (0, (), 0))
        self.assertNotIn(("ann", 0), self.bag)

    def test_add(self):
        told = [self.bag.add("bob", "x"), self.bag.add("ann", None), self.bag.add("bob", ("y", 1))]
        self.assertEqual(told, [("bob", 0), ("ann", 0), ("bob", 1)])
        self.assertEqual(self.bag.blocks, (("ann", 0), ("bob", 0), ("bob", 1)))
        self.assertEqual([self.bag.body(block) for block in told], ["x", None, ("y", 1)])
        self.assertEqual(self.bag.seal_of(("bob", 1)), seal("bob", 1, ("y", 1)))
        self.assertEqual([self.bag.next_number(name) for name in ("ann", "bob", "cy")], [1, 2, 0])
        self.assertEqual(len(self.bag), 3)

    def test_bodies_of_add(self):
        for body in odd_values() + [nested(28), nested(29), nested(28, ()), nested(27, ())]:
            fits = is_value(seal("ann", 0, body))
            if fits:
                self.assertEqual(self.bag.body(self.bag.add("ann", body)), body)
            else:
                self.stays(self.bag.add, ("ann", body), BadValue, body)
        self.assertEqual(raised(self.bag.add, "ann", nested(28, 1)), None)
        self.stays(self.bag.add, ("ann", nested(29, 1)), BadValue, nested(29, 1))

    def test_names(self):
        for odd in odd_values():
            if not (isinstance(odd, str) and odd in ("a", "ann", "seal", "make")):
                self.stays(self.bag.next_number, (odd,), BadName, odd)
                self.stays(self.bag.skip_to, (odd, "x"), BadName, odd)
                self.stays(self.bag.add, (odd, [1]), BadName, odd)

    def test_skip_to(self):
        self.bag.add("ann", 1)
        self.bag.skip_to("ann", 1)
        self.bag.skip_to("ann", 7)
        self.assertEqual((self.bag.next_number("ann"), self.bag.next_number("bob")), (7, 0))
        self.assertEqual(self.bag.add("ann", 2), ("ann", 7))
        for number in [-1, 0, 7, 10 ** 18 + 1, True, None, "9", (9,)]:
            self.stays(self.bag.skip_to, ("ann", number), BadNumber, number)
        self.bag.skip_to("bob", 0)
        self.bag.skip_to("cy", 10 ** 17)
        self.assertEqual(self.bag.next_number("cy"), 10 ** 17)
        self.bag.skip_to("dan", 10 ** 18)
        self.assertEqual(self.bag.next_number("dan"), 10 ** 18)

    def test_take(self):
        self.assertEqual(self.bag.take(seal("ann", 5, "x")), ("ann", 5))
        self.assertEqual(self.bag.take(seal("ann", 3, ())), ("ann", 3))
        self.assertEqual((self.bag.next_number("ann"), self.bag.blocks), (6, (("ann", 3), ("ann", 5))))
        before = state(self.bag)
        self.assertEqual(self.bag.take(seal("ann", 5, "x")), ("ann", 5))
        self.assertEqual(state(self.bag), before)
        for body in ("y", None, ("x",), 5):
            self.stays(self.bag.take, (seal("ann", 5, body),), OtherBody, ("ann", 5))
        self.assertEqual(self.bag.take(seal("ann", 10 ** 18, "x")), ("ann", 10 ** 18))

    def test_what_is_no_seal_of_a_block(self):
        for odd in odd_values() + [
            seal("Ann", 0, 1), seal("", 0, 1), seal("ann", -1, 1), seal("ann", True, 1), seal("ann", 10 ** 18 + 1, 1), seal("ann", "0", 1),
            seal("ann", 0, True), seal("ann", 0, [1]), seal("ann", 0, nested(29, 1)), seal("ann", 0, "a\tb"), ("seal", "ann", ("block", 0)),
            ("seal", "ann", ("block", 0, 1, 2)), ("seal", "ann", ("blocks", 0, 1)), ("seal", "ann", 1), ("seal", "ann", None),
            ("seal", "ann", ["block", 0, 1]), ("zeal", "ann", ("block", 0, 1)), ["seal", "ann", ("block", 0, 1)], seal("ann", 0, 1) + (1,),
            seal(None, 0, 1), ("ann", 0), ("block", 0, 1),
        ]:
            self.stays(self.bag.take, (odd,), BadSeal, odd)
        self.assertEqual(self.bag.take(seal("ann", 0, nested(28, 1))), ("ann", 0))

    def test_what_it_does_not_hold(self):
        self.bag.add("ann", "x")
        for odd in odd_values() + [("ann", 1), ("bob", 0), ("ann", False), ["ann", 0], ("ann", 0, 0), ("ann",), (["ann"], 0), ("ann", -1), ("ann", None)]:
            self.assertIs(odd in self.bag, False)
            for call in (self.bag.body, self.bag.seal_of, self.bag.let_go):
                self.stays(call, (odd,), NoBlock, odd)
        self.assertIs(("ann", 0) in self.bag, True)

    def test_let_go(self):
        self.bag.add("ann", "x")
        self.bag.add("ann", "y")
        self.assertIsNone(self.bag.let_go(("ann", 1)))
        self.assertEqual((self.bag.blocks, len(self.bag), self.bag.next_number("ann")), ((("ann", 0),), 1, 2))
        self.stays(self.bag.body, (("ann", 1),), NoBlock, ("ann", 1))
        self.assertEqual(self.bag.add("ann", "z"), ("ann", 2))
        self.assertEqual(self.bag.take(seal("ann", 1, "y")), ("ann", 1))

    def test_copy(self):
        self.bag.add("ann", "x")
        self.bag.skip_to("bob", 4)
        other = self.bag.copy()
        self.assertEqual(state(other), state(self.bag))
        before = state(self.bag)
        other.add("ann", "y")
        other.let_go(("ann", 0))
        other.skip_to("cy", 9)
        self.assertEqual(state(self.bag), before)
        self.assertEqual(self.bag.add("ann", "z"), ("ann", 1))
        self.assertEqual((other.body(("ann", 1)), other.next_number("bob")), ("y", 4))


if __name__ == "__main__":
    unittest.main()
