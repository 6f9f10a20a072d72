import random
import unittest

from lyinghouse.discs import done_steps, left_by, new_image
from lyinghouse.errors import BadImage, BadNumber, BadValue, BadValues, TooFull
from lyinghouse.keeps import Keep, keep_again
from lyinghouse.values import is_value, value_text
from falling import all_left, one_left
from samples import nested, odd_values, raised, raises_with

# Signs of which heads and tails of a keep are made: so texts may look like these.
SIGNS = "01avt. \n"


def need(values):
    return sum(len(value_text(value)) // 32 + 1 for value in values)


def some_value(chance, most=200):
    kind = chance.randrange(6)
    if kind == 0:
        return chance.choice((None, 0, 1, -1, (), ""))
    if kind == 1:
        return "".join(chance.choice(("0v", "1v", "0a")) + "0" * 11 + chance.choice("01234") + "0" * 7 + chance.choice("159") for _ in range(6))
    if kind == 2:
        # Wherever a sector begins within this text, something like a head may stand there.
        head = (f"v{chance.randrange(4):012d}{chance.randrange(60):08d}s5:about" + "0" * 62)[:62]
        start = chance.randrange(62)
        return (head * 5)[start:start + chance.randrange(most)]
    return "".join(chance.choice(SIGNS) for _ in range(chance.randrange(most)))


class Simple(unittest.TestCase):

    def test_a_new_keep(self):
        for sectors in (16, 17, 40, 20000):
            keep = Keep(sectors)
            self.assertEqual((keep.sectors, keep.rows, keep.image, keep.steps, len(keep)), (sectors, (), new_image(sectors), (), 0))
            again = keep_again(keep.image)
            self.assertEqual((again.sectors, again.rows, len(again)), (sectors, (), 0))
        for odd in odd_values() + [15, 20001, -16]:
            self.assertTrue(raises_with(raised(Keep, odd), BadNumber, odd) or type(odd) is int and 16 <= odd <= 20000)

    def test_add_and_pack(self):
        keep = Keep(60)
        self.assertIsNone(keep.add("one"))
        self.assertIsNone(keep.add(("two", (None, 2))))
        self.assertEqual((keep.rows, len(keep)), (("one", ("two", (None, 2))), 2))
        self.assertEqual(keep_again(keep.image).rows, keep.rows)
        self.assertIsNone(keep.pack((7,)))
        self.assertEqual((keep.rows, keep_again(keep.image).rows), ((7,), (7,)))
        keep.pack(())
        self.assertEqual((keep.rows, len(keep), keep_again(keep.image).rows), ((), 0, ()))
        keep.add("\n" * 200)
        self.assertEqual(keep_again(keep.image).rows, ("\n" * 200,))

    def stays(self, keep, call, args, kind, value):
        before = keep.rows, keep.image, keep.steps, len(keep)
        self.assertTrue(raises_with(raised(call, *args), kind, value))
        self.assertEqual((keep.rows, keep.image, keep.steps, len(keep)), before)

    def test_what_is_no_value(self):
        keep = Keep(16)
        keep.add(1)
        for odd in odd_values():
            if not is_value(odd):
                self.stays(keep, keep.add, (odd,), BadValue, odd)
                self.stays(keep, keep.pack, ((1, odd),), BadValues, (1, odd))
            if not (isinstance(odd, tuple) and is_value(odd)):
                self.stays(keep, keep.pack, (odd,), BadValues, odd)
        # Errors of arguments come ahead of a disc that is too full.
        self.stays(keep, keep.add, (("x" * 50000, True),), BadValue, ("x" * 50000, True))
        self.stays(keep, keep.pack, (("x" * 50000, True),), BadValues, ("x" * 50000, True))

    def test_too_full(self):
        for sectors in (16, 33, 100):
            keep = Keep(sectors)
            keep.add("here")
            self.stays(keep, keep.add, ("x" * 64 * sectors,), TooFull, sectors)
            self.stays(keep, keep.pack, (("x" * 64 * sectors,),), TooFull, sectors)
            self.stays(keep, keep.pack, (("x" * 64,) * sectors,), TooFull, sectors)
            self.assertEqual(keep_again(keep.image).rows, ("here",))
            error = None
            while error is None:
                error = raised(keep.add, "x" * 50)
            self.assertTrue(raises_with(error, TooFull, sectors))
            self.assertGreater(need((*keep.rows, "x" * 50)), (sectors - 8) // 2)
            self.assertEqual(keep_again(keep.image).rows, keep.rows)

    def test_steps(self):
        keep = Keep(80)
        for value in (1, "x" * 300, ("y" * 64,), "z"):
            before = keep.image
            keep.add(value)
            self.assertEqual((done_steps(before, keep.steps), keep.steps[-1]), (keep.image, ("fence",)))
        before = keep.image
        keep.pack(keep.rows[1:])
        self.assertEqual((done_steps(before, keep.steps), keep.steps[-1]), (keep.image, ("fence",)))
        steps = keep.steps
        raised(keep.add, True)
        self.assertEqual(keep.steps, steps)

    def test_images(self):
        for odd in odd_values() + [new_image(15), [" " * 64] * 16, (" " * 63,) * 16]:
            self.assertTrue(raises_with(raised(keep_again, odd), BadImage, odd))
        self.assertEqual(keep_again(new_image(16)).rows, ())

    def test_deep_and_long_values(self):
        keep = Keep(20000)
        values = (nested(29), "x" * 100000, (1,) * 20000)
        for value in values:
            keep.add(value)
        self.assertEqual(keep_again(keep.image).rows, values)

    def test_arguments_may_be_named(self):
        keep = Keep(sectors=16)
        keep.add(value=1)
        keep.pack(values=(2, 3))
        self.assertEqual(keep_again(image=keep.image).rows, (2, 3))


class Room(unittest.TestCase):
    """What needs at most (sectors - 8) // 2 sectors is never refused, whatever stood there before."""

    def rows_that_need(self, most, chance):
        rows = []
        while True:
            value = chance.choice((None, "x" * chance.randrange(29), "x" * 27, "x" * 60, "x" * 200, 5))
            if need((*rows, value)) > most:
                return tuple(rows) + (None,) * (most - need(rows))
            rows.append(value)

    def test_rows_up_to_the_limit(self):
        chance = random.Random(31)
        for sectors in (16, 17, 18, 19, 40, 41, 200):
            keep = Keep(sectors)
            for _ in range(30):
                rows = self.rows_that_need((sectors - 8) // 2, chance)
                kept = chance.randrange(len(rows) + 1)
                keep.pack(rows[:kept])
                for value in rows[kept:]:
                    keep.add(value)
                self.assertEqual((keep.rows, keep_again(keep.image).rows), (rows, rows))
                if chance.random() < 0.5:
                    keep = keep_again(keep.image)

    def test_each_length_in_a_keep_of_its_own(self):
        for sectors in (16, 30):
            most = (sectors - 8) // 2
            for length in range(32 * most):
                value = "x" * length
                if need((value,)) <= most:
                    keep = Keep(sectors)
                    keep.add(value)
                    keep.pack((value,))
                    self.assertEqual(keep_again(keep.image).rows, (value,))


class Falls(unittest.TestCase):

    def fallen(self, before, rows, keep, chance):
        """Behind any cut of the last call the rows are those ahead of it, or behind it, and stay."""
        seen = set()
        for image, is_done in all_left(before, keep.steps, chance):
            again = keep_again(image)
            self.assertIn(again.rows, (keep.rows,) if is_done else (rows, keep.rows))
            seen.add(again.rows == keep.rows)
            self.assertEqual(done_steps(image, again.steps), again.image)
            for other, _ in all_left(image, again.steps, chance):
                self.assertEqual(keep_again(other).rows, again.rows)
            self.assertEqual(keep_again(again.image).rows, again.rows)
        return seen

    def call(self, keep, chance):
        """One call; whether it was done."""
        if chance.random() < 0.3:
            values = [some_value(chance) for _ in range(chance.randrange(4))]
            return raised(keep.pack, tuple(values) if chance.random() < 0.5 else keep.rows[-3:] + tuple(values[:1]))
        return raised(keep.add, some_value(chance))

    def test_each_cut_of_each_call(self):
        chance = random.Random(32)
        for sectors in (16, 24, 41, 64):
            keep = Keep(sectors)
            for _ in range(40):
                before, rows = keep.image, keep.rows
                error = self.call(keep, chance)
                if error is not None:
                    self.assertIsInstance(error, TooFull)
                    keep.pack(())
                    continue
                seen = self.fallen(before, rows, keep, chance)
                self.assertTrue(True in seen)

    def test_it_goes_on_behind_falls(self):
        chance = random.Random(33)
        for sectors in (16, 17, 30, 48):
            keep = Keep(sectors)
            for _ in range(800):
                before, rows = keep.image, keep.rows
                error = self.call(keep, chance)
                if error is not None:
                    self.assertIsInstance(error, TooFull)
                    self.assertEqual((keep.image, keep.rows), (before, rows))
                    if chance.random() < 0.5:
                        keep.pack(keep.rows[:1])
                    continue
                if chance.random() < 0.7:
                    image, is_done = one_left(before, keep.steps, chance)
                    again = keep_again(image)
                    self.assertIn(again.rows, (keep.rows,) if is_done else (rows, keep.rows))
                    keep = again

    def test_texts_that_look_like_rows_and_are_cut(self):
        """What a cut leaves of a text lies where later a row is looked for, and was written to look like one."""
        for many in (1, 2, 3):
            keep = Keep(40)
            keep.pack(())
            for _ in range(many):
                for value in (1,) * 15:
                    keep.add(value)
                keep.pack(())
                keep.pack(())
            like = f"v{2 * many + 1:012d}00000001n".ljust(62)
            value = "q" * 36 + like * 3
            before = keep.image
            keep.add(value)
            self.assertEqual(value_text(value)[41:103], like)
            writes = keep.steps[:3]
            for cut in range(1, 4):
                for signs in range(65):
                    left = left_by(before, writes[:cut], (64,) * (cut - 1) + (signs,))
                    again = keep_again(left)
                    self.assertEqual(again.rows, ())
                    for row in (5, "x" * 60, "x" * 120):
                        more = keep_again(left)
                        more.add(row)
                        self.assertEqual(keep_again(more.image).rows, (row,))

    def test_falls_again_and_again_in_one_place(self):
        chance = random.Random(34)
        for _ in range(60):
            keep = Keep(20)
            keep.add("old")
            image = keep.image
            for _ in range(12):
                keep = keep_again(image)
                self.assertEqual(keep.rows, ("old",))
                before = keep.image
                value = some_value(chance)
                if chance.random() < 0.5:
                    keep.add(value)
                else:
                    keep.pack((value, "more"))
                # All but the last sector may be there, and any part of that one but its last sign.
                steps = keep.steps[:chance.randrange(len(keep.steps))]
                image, _ = one_left(before, steps, chance)
                if keep_again(image).rows != ("old",):
                    self.assertEqual(keep_again(image).rows, keep.rows)
                    image = before


if __name__ == "__main__":
    unittest.main()
