import random
import unittest

from lyinghouse.bag import Bag
from lyinghouse.errors import BadKey, BadMap, BadName, BadNumber, BadRoot, BadRows, BadValue, NoBlock, NoKey
from lyinghouse.maps import map_blocks, map_changes, map_drop, map_get, map_has, map_of, map_part, map_put, map_rows, map_size
from fetching import NAMES, added, emptied, fetched, figures, needed, parts_in, state
from samples import nested, odd_values, raised, raises_with


def rows_of(model):
    return tuple(sorted(model.items()))


def some_value(chance):
    return chance.choice((None, 0, 7, "x", "", (), ("a", (1, None)), nested(20, 1)))


class Wrong(unittest.TestCase):

    def setUp(self):
        self.bag = Bag()
        self.root = map_of(self.bag, "ann", (("a", 1), ("b", 2)))
        self.numbers = map_of(self.bag, "ann", ((1, 1), (2, 2)))

    def stays(self, kind, value, call, *args):
        before = state(self.bag)
        self.assertTrue(raises_with(raised(call, self.bag, *args), kind, value), (call, args))
        self.assertEqual(state(self.bag), before)

    def test_names_come_first(self):
        for odd in odd_values():
            if not (isinstance(odd, str) and odd in ("a", "ann", "seal", "make")):
                self.stays(BadName, odd, map_put, odd, "root", [1], [2])
                self.stays(BadName, odd, map_drop, odd, "root", [1])
                self.stays(BadName, odd, map_of, odd, [1])

    def test_then_roots(self):
        for odd in odd_values() + [("ann", -1), ("ann", True), ("ann", 10 ** 18 + 1), ("Ann", 0), ["ann", 0], ("ann", 0, 0)]:
            if odd is None:
                continue
            for call in (map_get, map_has):
                self.stays(BadRoot, odd, call, odd, [1])
            self.stays(BadRoot, odd, map_put, "ann", odd, [1], [2])
            self.stays(BadRoot, odd, map_drop, "ann", odd, [1])
            for call in (map_rows, map_size, map_blocks):
                self.stays(BadRoot, odd, call, odd)
            self.stays(BadRoot, odd, map_part, odd, [1], "x")
            self.stays(BadRoot, odd, map_changes, odd, [1])
            self.stays(BadRoot, odd, map_changes, self.root, odd)

    def test_then_keys(self):
        for odd in odd_values() + ["x" * 61, 10 ** 18 + 1, -10 ** 18 - 1, "a\tb", True, None, ("a",)]:
            if isinstance(odd, int) and not isinstance(odd, bool) and abs(odd) <= 10 ** 18:
                continue
            if isinstance(odd, str) and len(odd) <= 60 and "\t" not in odd:
                continue
            gone = ("bob", 9)
            self.stays(BadKey, odd, map_get, gone, odd)
            self.stays(BadKey, odd, map_has, gone, odd)
            self.stays(BadKey, odd, map_put, "ann", gone, odd, [1])
            self.stays(BadKey, odd, map_drop, "ann", gone, odd)
            self.stays(BadKey, odd, map_part, gone, odd, -1)

    def test_then_values_and_numbers(self):
        gone = ("bob", 9)
        for odd in (True, [1], {}, nested(21, 1), nested(21, ()), 10 ** 18 + 1, "x" * 100001, "\t", Bag(), (1, False)):
            self.stays(BadValue, odd, map_put, "ann", gone, "a", odd)
        for odd in (-1, 10001, True, None, "1", (1,), [1]):
            self.stays(BadNumber, odd, map_part, gone, "a", odd)
            self.stays(BadNumber, odd, map_part, None, "a", odd)

    def test_then_blocks(self):
        gone = ("bob", 9)
        for call in (map_rows, map_size, map_blocks):
            self.stays(NoBlock, gone, call, gone)
        self.stays(NoBlock, gone, map_get, gone, "a")
        self.stays(NoBlock, gone, map_has, gone, "a")
        self.stays(NoBlock, gone, map_put, "ann", gone, "a", 1)
        self.stays(NoBlock, gone, map_drop, "ann", gone, "a")
        self.stays(NoBlock, gone, map_part, gone, "a", 5)
        self.stays(NoBlock, gone, map_changes, self.root, gone)
        self.stays(NoBlock, gone, map_changes, gone, None)
        for body in (None, 0, -7, "", "x" * 1000):
            bad = self.bag.add("bob", body)
            for call in (map_rows, map_size, map_blocks):
                self.stays(BadMap, bad, call, bad)
            self.stays(BadMap, bad, map_get, bad, "a")
            self.stays(BadMap, bad, map_has, bad, 1)
            self.stays(BadMap, bad, map_put, "ann", bad, "a", 1)
            self.stays(BadMap, bad, map_drop, "ann", bad, "a")
            self.stays(BadMap, bad, map_part, bad, "a", 5)
            self.stays(BadMap, bad, map_changes, bad, self.root)

    def test_keys_of_the_other_kind(self):
        for root, key in ((self.root, 1), (self.numbers, "a"), (self.root, -10 ** 18), (self.numbers, "")):
            self.stays(BadKey, key, map_put, "ann", root, key, 1)
            for call, args in ((map_get, (root, key)), (map_drop, ("ann", root, key))):
                error = raised(call, self.bag, *args)
                self.assertTrue(raises_with(error, BadKey, key) or raises_with(error, NoKey, key))
            error = raised(map_has, self.bag, root, key)
            self.assertTrue(error is None or raises_with(error, BadKey, key))

    def test_keys_that_are_not_there(self):
        for root, key in ((self.root, "c"), (self.root, ""), (self.root, "aa"), (self.numbers, 0), (self.numbers, 3), (None, "a"), (None, 1)):
            self.stays(NoKey, key, map_get, root, key)
            self.stays(NoKey, key, map_drop, "ann", root, key)
            self.assertIs(map_has(self.bag, root, key), False)

    def test_rows(self):
        good = ("a", 1)
        for odd in odd_values() + [(good, good), (good, ("b", True)), (good, ("b",)), (good, ("b", 1, 2)), (good, (1, 1)), ((1, 1), ("a", 1)), [good],
                                   (good, ["b", 1]), ((True, 1),), ((None, 1),), (("x" * 61, 1),), ((10 ** 18 + 1, 1),), (("a", nested(21, 1)),),
                                   good, ((1, 1), (1, 2)), (((1,), 1),), (("a\tb", 1),)]:
            if odd == () and type(odd) is tuple:
                continue
            self.stays(BadRows, odd, map_of, "ann", odd)

    def test_limits_of_keys_and_values(self):
        for keys in (["x" * 60, "", "\n", " ~"], [10 ** 18, -10 ** 18, 0]):
            root = None
            for key in keys:
                root = map_put(self.bag, "ann", root, key, nested(20, 1))
            self.assertEqual(map_rows(self.bag, root), tuple((key, nested(20, 1)) for key in sorted(keys)))
            self.assertEqual(map_of(self.bag, "ann", tuple((key, nested(19)) for key in keys))[0], "ann")
        self.assertEqual(map_part(self.bag, self.numbers, 1, 10000), ((1, 1), (2, 2)))


class Empty(unittest.TestCase):

    def test_the_map_without_keys(self):
        bag = Bag()
        self.assertEqual((map_rows(bag, None), map_size(bag, None), map_blocks(bag, None), map_of(bag, "ann", ())), ((), 0, (), None))
        self.assertEqual((map_part(bag, None, "a", 5), map_changes(bag, None, None), map_has(bag, None, 1)), ((), (), False))
        root = map_put(bag, "ann", None, "a", None)
        self.assertEqual(map_changes(bag, None, root), (("a", (), (None,)),))
        self.assertEqual(map_changes(bag, root, None), (("a", (None,), ()),))
        self.assertEqual((map_drop(bag, "ann", root, "a"), len(bag)), (None, 1))


class Beside(unittest.TestCase):
    """Maps beside dicts, in all sequences, with all that is promised of them."""

    def setUp(self):
        self.bag = Bag()
        self.held = []

    def told(self, root, model):
        self.assertEqual(map_rows(self.bag, root), rows_of(model))
        self.assertEqual(map_size(self.bag, root), len(model))
        self.assertEqual(root is None, model == {})
        blocks = map_blocks(self.bag, root)
        self.assertEqual(blocks, tuple(sorted(set(blocks))))
        for block in blocks:
            if all(not isinstance(value, tuple) for value in model.values()):
                self.assertLessEqual(parts_in(self.bag.body(block)), 100)

    def put(self, root, model, key, value, name):
        before = dict(model)
        new, blocks = added(lambda bag: map_put(bag, name, root, key, value), self.bag)
        model[key] = value
        self.assertLessEqual(len(blocks), 2 + 2 * figures(len(model)))
        self.assertTrue(all(block[0] == name for block in blocks))
        if before == model and all(type(before[other]) is type(model[other]) for other in model):
            self.assertEqual((new, blocks), (root, []))
        else:
            self.assertNotEqual(new, root)
        return new

    def drop(self, root, model, key, name):
        new, blocks = added(lambda bag: map_drop(bag, name, root, key), self.bag)
        del model[key]
        self.assertLessEqual(len(blocks), 2 + 2 * figures(len(model)))
        self.assertTrue(all(block[0] == name for block in blocks))
        return new

    def up_and_down(self, keys, back):
        root, model = None, {}
        for at, key in enumerate(keys):
            root = self.put(root, model, key, at, NAMES[at % 3])
            if at % 37 == 0:
                self.told(root, model)
                self.held.append((root, dict(model)))
                self.asked(root, model, key)
        self.told(root, model)
        for at, key in enumerate(back):
            root = self.drop(root, model, key, NAMES[at % 3])
            if at % 41 == 0:
                self.told(root, model)
                self.held.append((root, dict(model)))
        self.assertIsNone(root)
        for root, model in self.held:
            self.told(root, model)

    def asked(self, root, model, key):
        """What is needed for the map with this root, at a key that it has and at some that it has not."""
        many = len(model)
        keys = sorted(model)
        other = key + "x" if isinstance(key, str) else key + 1
        for asked in (key, other, keys[0], keys[-1]):
            told, given = fetched(lambda bag: map_has(bag, root, asked), self.bag)
            self.assertEqual(told, asked in model)
            self.assertLessEqual(len(given), 1 + figures(many))
            new, given = fetched(lambda bag: map_put(bag, "ann", root, asked, "new"), self.bag)
            self.assertLessEqual(len(given), 2 + 2 * figures(len({**model, asked: 0})))
            for wanted in (0, 1, 2, 20):
                low = [row for row in rows_of(model) if row[0] >= asked][:wanted]
                told, given = fetched(lambda bag: map_part(bag, root, asked, wanted), self.bag)
                self.assertEqual(told, tuple(low))
                self.assertLessEqual(len(given), 2 + figures(many) + wanted)
            if asked in model:
                told, given = fetched(lambda bag: map_get(bag, root, asked), self.bag)
                self.assertEqual(told, model[asked])
                self.assertLessEqual(len(given), 1 + figures(many))
                told, given = fetched(lambda bag: map_drop(bag, "ann", root, asked), self.bag)
                self.assertLessEqual(len(given), 2 + 2 * figures(many - 1))

    def test_ascending_and_back(self):
        keys = list(range(600))
        self.up_and_down(keys, keys)

    def test_ascending_and_descending(self):
        keys = [f"k{number:03d}" for number in range(600)]
        self.up_and_down(keys, keys[::-1])

    def test_descending_and_mixed(self):
        chance = random.Random(5)
        keys = list(range(-300, 300))
        self.up_and_down(keys[::-1], chance.sample(keys, 600))

    def test_mixed(self):
        chance = random.Random(6)
        keys = [str(number) for number in range(600)]
        self.up_and_down(chance.sample(keys, 600), chance.sample(keys, 600))

    def test_maps_of_rows_go_on(self):
        chance = random.Random(7)
        for many in (1, 2, 15, 16, 17, 18, 31, 32, 33, 48, 100, 255, 256, 257, 600):
            model = {number * 3: number for number in range(many)}
            rows = list(model.items())
            chance.shuffle(rows)
            root, blocks = added(lambda bag: map_of(bag, "cy", tuple(rows)), self.bag)
            self.assertTrue(all(block[0] == "cy" for block in blocks))
            self.assertEqual(sorted(map_blocks(self.bag, root)), sorted(blocks))
            self.told(root, model)
            self.asked(root, model, chance.choice(list(model)))
            for key in chance.sample(sorted(model), many // 2):
                root = self.drop(root, model, key, "ann")
            for key in chance.sample(range(3 * many), many // 2):
                root = self.put(root, model, key, -key, "bob")
            self.told(root, model)

    def test_any_values(self):
        chance = random.Random(8)
        root, model = None, {}
        for _ in range(400):
            key = str(chance.randrange(60))
            if key in model and chance.random() < 0.4:
                root = self.drop(root, model, key, "ann")
            else:
                root = self.put(root, model, key, some_value(chance), "bob")
            self.assertEqual(map_rows(self.bag, root), rows_of(model))

    def test_blocks_are_those_that_rows_need(self):
        root = map_of(self.bag, "ann", tuple((number, number) for number in range(300)))
        self.bag.add("bob", "something else")
        self.assertEqual(tuple(needed(lambda bag: map_rows(bag, root), self.bag)), map_blocks(self.bag, root))


class Changes(unittest.TestCase):

    def changes(self, one, other):
        keys = sorted(set(one) | set(other))
        rows = [(key, (one[key],) if key in one else (), (other[key],) if key in other else ()) for key in keys]
        return tuple(row for row in rows if row[1] != row[2])

    def apart(self, bag, root, new, model, newer):
        call = lambda any_bag: map_changes(any_bag, root, new)
        self.assertEqual(call(bag), self.changes(model, newer))
        self.assertEqual(map_changes(bag, new, root), self.changes(newer, model))
        both = set(map_blocks(bag, root)) & set(map_blocks(bag, new))
        told, given = fetched(call, bag)
        self.assertEqual(told, self.changes(model, newer))
        self.assertLessEqual(set(given) & both, {root, new})
        self.assertLessEqual(set(given), {root, new} | set(map_blocks(bag, root)) ^ set(map_blocks(bag, new)))

    def test_maps_that_came_of_one_another(self):
        chance = random.Random(9)
        bag = Bag()
        roots = [(None, {})]
        for _ in range(60):
            root, model = chance.choice(roots[-6:])
            newer = dict(model)
            new = root
            for _ in range(chance.choice((1, 2, 5, 40))):
                key = chance.randrange(200)
                if key in newer and chance.random() < 0.45:
                    new = map_drop(bag, "ann", new, key)
                    del newer[key]
                else:
                    newer[key] = chance.randrange(3)
                    new = map_put(bag, "bob", new, key, newer[key])
            roots.append((new, newer))
        for _ in range(120):
            (root, model), (new, newer) = chance.choice(roots), chance.choice(roots)
            self.apart(bag, root, new, model, newer)

    def test_great_and_small_ones(self):
        bag = Bag()
        model = {number: number for number in range(400)}
        root = map_of(bag, "ann", tuple(model.items()))
        new, newer = root, dict(model)
        for key in list(range(400))[::-1]:
            new = map_drop(bag, "ann", new, key)
            del newer[key]
            if key % 31 == 0:
                self.apart(bag, root, new, model, newer)

    def test_alike_but_made_anew(self):
        bag = Bag()
        rows = tuple((number, None) for number in range(100))
        one, other = map_of(bag, "ann", rows), map_of(bag, "bob", rows)
        self.assertEqual(map_changes(bag, one, other), ())
        self.assertEqual(map_changes(emptied(bag), one, one), ())

    def test_values_that_are_alike_to_python_alone(self):
        bag = Bag()
        one = map_put(bag, "ann", None, "a", 0)
        self.assertEqual(map_changes(bag, one, map_put(bag, "ann", one, "a", ())), (("a", (0,), ((),)),))


class Copies(unittest.TestCase):

    def test_copies_go_on_by_themselves(self):
        bag = Bag()
        root = map_of(bag, "ann", tuple((number, number) for number in range(50)))
        other = bag.copy()
        mine, its = map_put(bag, "ann", root, 7, "mine"), map_put(other, "ann", root, 7, "its")
        self.assertEqual((map_get(bag, mine, 7), map_get(other, its, 7)), ("mine", "its"))
        self.assertEqual((map_get(bag, root, 7), map_get(other, root, 7)), (7, 7))

    def test_arguments_may_be_named(self):
        bag = Bag()
        root = map_of(bag=bag, name="ann", rows=((1, "a"),))
        root = map_put(bag=bag, name="ann", root=root, key=2, value="b")
        self.assertEqual((map_get(bag=bag, root=root, key=2), map_has(bag=bag, root=root, key=3)), ("b", False))
        self.assertEqual(map_part(bag=bag, root=root, low=2, many=1), ((2, "b"),))
        self.assertEqual(map_rows(bag=bag, root=map_drop(bag=bag, name="ann", root=root, key=1)), ((2, "b"),))
        self.assertEqual((map_size(bag=bag, root=root), map_blocks(bag=bag, root=root)), (2, (root,)))
        self.assertEqual(map_changes(bag=bag, one=root, other=root), ())


if __name__ == "__main__":
    unittest.main()
