import random
import unittest

from lyinghouse.bag import Bag
from lyinghouse.errors import BadFile, BadName, BadNumber, BadRoot, BadText, Beyond, NoBlock, TooLong
from lyinghouse.files import file_blocks, file_cut, file_length, file_new, file_part, file_put, file_text, file_unlike
from fetching import NAMES, added, fetched, figures, needed, parts_in, state, strings_in
from samples import odd_values, raised, raises_with

EDGES = (0, 1, 2, 63, 64, 65, 127, 128, 129, 1023, 1024, 1025, 1088, 2048, 2049, 16383, 16384, 16385, 16448, 19999, 20000)


def some_text(length, chance):
    return "".join(chance.choice("abc \n~") for _ in range(length))


class Wrong(unittest.TestCase):

    def setUp(self):
        self.bag = Bag()
        self.root = file_new(self.bag, "ann", "one two three")

    def stays(self, kind, value, call, *args):
        before = state(self.bag)
        self.assertTrue(raises_with(raised(call, self.bag, *args), kind, value), (call, args))
        self.assertEqual(state(self.bag), before)

    def test_names_come_first(self):
        for odd in odd_values():
            if not (isinstance(odd, str) and odd in ("a", "ann", "seal", "make")):
                self.stays(BadName, odd, file_new, odd, None)
                self.stays(BadName, odd, file_put, odd, "root", -1, None)
                self.stays(BadName, odd, file_cut, odd, "root", -1)

    def test_then_roots(self):
        for odd in odd_values() + [("ann", -1), ("ann", True), ("ann", 10 ** 18 + 1), ("Ann", 0), ["ann", 0], ("ann", 0, 0)]:
            if odd is None:
                continue
            for call in (file_text, file_length, file_blocks):
                self.stays(BadRoot, odd, call, odd)
            self.stays(BadRoot, odd, file_part, odd, -1, -1)
            self.stays(BadRoot, odd, file_put, "ann", odd, -1, None)
            self.stays(BadRoot, odd, file_cut, "ann", odd, -1)
            self.stays(BadRoot, odd, file_unlike, odd, [1])
            self.stays(BadRoot, odd, file_unlike, self.root, odd)

    def test_then_numbers(self):
        gone = ("bob", 9)
        for odd in odd_values() + [20001, 1.5]:
            if isinstance(odd, int) and not isinstance(odd, bool) and 0 <= odd <= 20000:
                continue
            self.stays(BadNumber, odd, file_part, gone, odd, -1)
            self.stays(BadNumber, odd, file_part, gone, 0, odd)
            self.stays(BadNumber, odd, file_put, "ann", gone, odd, None)
            self.stays(BadNumber, odd, file_cut, "ann", gone, odd)

    def test_then_texts(self):
        gone = ("bob", 9)
        for odd in odd_values() + ["x" * 20001, "a\tb", "\t"]:
            if isinstance(odd, str) and len(odd) <= 20000 and "\t" not in odd:
                continue
            self.stays(BadText, None, file_new, "ann", odd)
            self.stays(BadText, None, file_put, "ann", gone, 20000, odd)

    def test_then_blocks(self):
        gone = ("bob", 9)
        for call in (file_text, file_length, file_blocks):
            self.stays(NoBlock, gone, call, gone)
        self.stays(NoBlock, gone, file_part, gone, 0, 5)
        self.stays(NoBlock, gone, file_put, "ann", gone, 20000, "xx")
        self.stays(NoBlock, gone, file_cut, "ann", gone, 20000)
        self.stays(NoBlock, gone, file_unlike, self.root, gone)
        for body in (None, 0, 64, -7):
            bad = self.bag.add("bob", body)
            for call in (file_text, file_length, file_blocks):
                self.stays(BadFile, bad, call, bad)
            self.stays(BadFile, bad, file_part, bad, 0, 5)
            self.stays(BadFile, bad, file_put, "ann", bad, 20000, "xx")
            self.stays(BadFile, bad, file_cut, "ann", bad, 20000)
            self.stays(BadFile, bad, file_unlike, bad, self.root)
            self.stays(BadFile, bad, file_unlike, self.root, bad)

    def test_beyond_and_too_long(self):
        for at in (14, 15, 20000):
            self.stays(Beyond, 13, file_put, "ann", self.root, at, "")
            self.stays(Beyond, 13, file_put, "ann", self.root, at, "x" * 20000)
            self.stays(Beyond, 13, file_cut, "ann", self.root, at)
            self.stays(Beyond, 0, file_put, "ann", None, at, "x")
            self.stays(Beyond, 0, file_cut, "ann", None, at)
        self.stays(TooLong, 20000, file_put, "ann", self.root, 13, "x" * 19988)
        self.stays(TooLong, 20000, file_put, "ann", self.root, 1, "x" * 20000)
        long = file_new(self.bag, "ann", "x" * 20000)
        self.stays(TooLong, 20000, file_put, "ann", long, 20000, "y")
        self.assertEqual(file_put(self.bag, "ann", long, 20000, ""), long)
        self.assertEqual(file_length(self.bag, file_put(self.bag, "ann", self.root, 13, "x" * 19987)), 20000)


class Beside(unittest.TestCase):
    """Texts in blocks beside strings, with all that is promised of them."""

    def setUp(self):
        self.bag = Bag()
        self.chance = random.Random(11)

    def told(self, root, text):
        self.assertEqual(file_text(self.bag, root), text)
        self.assertEqual(file_length(self.bag, root), len(text))
        self.assertEqual(root is None, text == "")
        blocks = file_blocks(self.bag, root)
        self.assertEqual(blocks, tuple(sorted(set(blocks))))
        for block in blocks:
            body = self.bag.body(block)
            self.assertLessEqual(max([len(string) for string in strings_in(body)] + [0]), 64)
            self.assertLessEqual(parts_in(body), 50)

    def new(self, text, name):
        root, blocks = added(lambda bag: file_new(bag, name, text), self.bag)
        self.made(blocks, name, len(text) // 32 + 3)
        self.told(root, text)
        return root

    def made(self, blocks, name, most):
        self.assertTrue(all(block[0] == name for block in blocks))
        self.assertLessEqual(len(blocks), most)

    def put(self, root, old, at, text, name="bob"):
        new, blocks = added(lambda bag: file_put(bag, name, root, at, text), self.bag)
        whole = old[:at] + text + old[at + len(text):]
        most = len(text) // 32 + 3 + 2 * figures(len(whole))
        self.made(blocks, name, most)
        told, given = fetched(lambda bag: file_put(bag, name, root, at, text), self.bag)
        self.assertLessEqual(len(given), most)
        if whole == old:
            self.assertEqual((new, told, blocks), (root, root, []))
        self.told(new, whole)
        return new, whole

    def cut(self, root, old, length, name="cy"):
        new, blocks = added(lambda bag: file_cut(bag, name, root, length), self.bag)
        most = 3 + 2 * figures(length)
        self.made(blocks, name, most)
        told, given = fetched(lambda bag: file_cut(bag, name, root, length), self.bag)
        self.assertLessEqual(len(given), most)
        if length == len(old):
            self.assertEqual((new, told, blocks), (root, root, []))
        self.told(new, old[:length])
        return new, old[:length]

    def part(self, root, text, at, many):
        told, given = fetched(lambda bag: file_part(bag, root, at, many), self.bag)
        self.assertEqual(told, text[at:at + many])
        self.assertLessEqual(len(given), many // 32 + 3 + 2 * figures(len(text)))

    def test_each_length(self):
        for length in EDGES:
            text = some_text(length, self.chance)
            root = self.new(text, "ann")
            self.assertLessEqual(len(fetched(lambda bag: file_length(bag, root), self.bag)[1]), 1)
            for at in EDGES:
                self.part(root, text, at, 1)
                self.part(root, text, max(at - 1, 0), 2)
            for many in (0, 64, 65, 1024, 20000):
                self.part(root, text, length // 2, many)
                self.part(root, text, 0, many)

    def test_cut_at_each_length(self):
        for length in EDGES:
            text = some_text(length, self.chance)
            root = file_new(self.bag, "ann", text)
            for shorter in EDGES:
                if shorter <= length:
                    self.cut(root, text, shorter)

    def test_put_at_each_place(self):
        for length in (0, 1, 64, 65, 1024, 1025, 2048, 16384, 16385, 19999):
            text = some_text(length, self.chance)
            root = file_new(self.bag, "ann", text)
            for at in EDGES:
                for many in (0, 1, 65, 1024):
                    if at <= length and at + many <= 20000:
                        self.put(root, text, at, some_text(many, self.chance))
                        self.put(root, text, at, text[at:at + many])

    def test_long_puts(self):
        text = some_text(20000, self.chance)
        root = file_new(self.bag, "ann", text)
        for at, many in [(0, 20000), (0, 19999), (1, 19999), (5000, 15000), (63, 16386)]:
            self.put(root, text, at, some_text(many, self.chance))
            self.put(root, text, at, text[at:at + many])
        self.put(None, "", 0, text)
        self.put(root, text, 16384, "")

    def test_many_changes_and_elder_roots(self):
        for _ in range(4):
            root, text = None, ""
            held = []
            for _ in range(60):
                if self.chance.random() < 0.3:
                    length = self.chance.choice([len(text), self.chance.randrange(len(text) + 1)])
                    root, text = self.cut(root, text, length, self.chance.choice(NAMES))
                else:
                    at = self.chance.choice([len(text), self.chance.randrange(len(text) + 1)])
                    many = min(self.chance.choice((1, 10, 64, 300, 5000)), 20000 - at)
                    root, text = self.put(root, text, at, some_text(many, self.chance), self.chance.choice(NAMES))
                held.append((root, text))
                self.unlike(*self.chance.choice(held), root, text)
            for root, text in held:
                self.told(root, text)

    def unlike(self, one, text, other, later):
        places = [at for at in range(min(len(text), len(later))) if text[at] != later[at]]
        place = None if text == later else (places + [min(len(text), len(later))])[0]
        both = set(file_blocks(self.bag, one)) & set(file_blocks(self.bag, other))
        for call in (lambda bag: file_unlike(bag, one, other), lambda bag: file_unlike(bag, other, one)):
            told, given = fetched(call, self.bag)
            self.assertEqual(told, place)
            self.assertLessEqual(set(given) & both, {one, other})

    def test_unlike_texts(self):
        for length in (0, 1, 64, 65, 1024, 1025, 2049, 4097):
            text = some_text(length, self.chance)
            one, same = file_new(self.bag, "ann", text), file_new(self.bag, "bob", text)
            self.unlike(one, text, same, text)
            self.unlike(one, text, None, "")
            for at in EDGES:
                if at < length:
                    self.unlike(one, text, file_put(self.bag, "cy", one, at, "#"), text[:at] + "#" + text[at + 1:])
                    self.unlike(one, text, file_cut(self.bag, "cy", one, at), text[:at])
                    self.unlike(same, text, file_cut(self.bag, "cy", one, at), text[:at])

    def test_blocks_are_those_that_the_text_needs(self):
        for length in (0, 1, 64, 65, 1025, 3000):
            root = file_new(self.bag, "ann", some_text(length, self.chance))
            self.assertEqual(tuple(needed(lambda bag: file_text(bag, root), self.bag)), file_blocks(self.bag, root))


class Copies(unittest.TestCase):

    def test_copies_go_on_by_themselves(self):
        bag = Bag()
        root = file_new(bag, "ann", "x" * 500)
        other = bag.copy()
        mine, its = file_put(bag, "ann", root, 499, "mine"), file_cut(other, "ann", root, 70)
        self.assertEqual((file_text(bag, mine), file_text(other, its)), ("x" * 499 + "mine", "x" * 70))
        self.assertEqual((file_text(bag, root), file_text(other, root)), ("x" * 500, "x" * 500))

    def test_arguments_may_be_named(self):
        bag = Bag()
        root = file_put(bag=bag, name="ann", root=file_new(bag=bag, name="ann", text="abc"), at=3, text="d")
        self.assertEqual((file_text(bag=bag, root=root), file_length(bag=bag, root=root)), ("abcd", 4))
        self.assertEqual(file_part(bag=bag, root=root, at=1, many=2), "bc")
        self.assertEqual(file_unlike(bag=bag, one=root, other=file_cut(bag=bag, name="bob", root=root, length=2)), 2)
        self.assertEqual(file_blocks(bag=bag, root=root), (root,))


if __name__ == "__main__":
    unittest.main()
