"""Point 20: sketches."""

import itertools
import random
import unittest

from hungwall.errors import InvalidSketch
from hungwall.planchecker import is_plan
from hungwall.sketches import read_sketch, sketch_letters
from tests.helping import E, FIVE, FOUR, N, ONE, S, TUCKED, TWO, W, HungTest, least_first, pile

SLANTS = ("falling", "rising")
NOT_ROWS = (
    None, True, 0, "", "ab", "a", (), [], ["ab", "dc"], ("ab", "c"), ("", ""), ("",), ("a", None),
    ("a", 1), ("a", ("b",)), ("ab", ["a", "b"]), ("a",) * 21, ("a" * 21,), ("ab",) * 3 + ("",),
)
NOT_SLANTS = (None, True, 0, "", "Falling", "rising ", "level", ("falling",), ["rising"])


def beyond(rows, r, c):
    """The letter of a sign, or the side off which (r, c) lies."""
    if r < 0 or r >= len(rows):
        return N if r < 0 else S
    if c < 0 or c >= len(rows[0]):
        return W if c < 0 else E
    return rows[r][c]


def told_circle(rows, slant, letter):
    """The walk round a letter, gone with one hand on the edge from its first sign."""
    r, c = min((r, c) for r, row in enumerate(rows) for c, sign in enumerate(row) if sign == letter)
    steps = ((-1, 0), (0, 1), (1, 0), (0, -1))
    facing, walk, start = 0, [], None
    while (r, c, facing) != start:
        start = start or (r, c, facing)
        up, right = steps[facing], steps[(facing + 1) % 4]
        walk.append(beyond(rows, r + up[0], c + up[1]))
        ahead = beyond(rows, r + right[0], c + right[1])
        corner = beyond(rows, r + up[0] + right[0], c + up[1] + right[1])
        if ahead != letter:
            met = {letter, walk[-1], ahead, corner}
            inner = len(met) == 4 and all(isinstance(place, str) for place in met)
            if inner and (facing % 2 == (slant == "falling")):
                walk.append(corner)
            facing = (facing + 1) % 4
        elif corner != letter:
            r, c = r + right[0], c + right[1]
        else:
            r, c = r + up[0] + right[0], c + up[1] + right[1]
            facing = (facing - 1) % 4
    letters = sorted(set("".join(rows)))
    places = [place if isinstance(place, int) else letters.index(place) for place in walk]
    places = [place for at, place in enumerate(places) if place != places[at - 1]]
    return least_first(places)


def random_sketch(source, height, width, most):
    """A sketch of boxes laid one over the other."""
    grid = [["a"] * width for _ in range(height)]
    for k in range(1, most):
        top, bottom = sorted(source.choices(range(height), k=2))
        left, right = sorted(source.choices(range(width), k=2))
        for r in range(top, bottom + 1):
            grid[r][left:right + 1] = chr(97 + k) * (right + 1 - left)
    return tuple("".join(row) for row in grid)


class Sketches(HungTest):
    def no_sketch(self, word, at, call, *told, **named):
        self.raises(InvalidSketch, {"word": word, "at": at}, call, *told, **named)

    def both(self, want, rows):
        """Both slants lead to this plan."""
        for slant in SLANTS:
            self.answers(want, read_sketch, rows, slant)

    def test_edges(self):
        self.both(ONE, ("a",))
        self.both(ONE, ("q" * 20,) * 20)
        self.both(TWO, ("ab",))
        self.both(TWO, ("yz",) * 20)
        self.both(pile(2), ("a", "b"))
        self.both(pile(20), tuple("abcdefghijklmnopqrst"))

    def test_twenty_by_twenty(self):
        rows = tuple(("a" * 10 + "b" * 10,) * 10 + ("d" * 10 + "c" * 10,) * 10)
        self.answers(FOUR, read_sketch, rows, "falling")
        rising = read_sketch(("ab", "dc"), "rising")
        self.answers(rising, read_sketch, rows, "rising")
        self.answers(((W, N, 1, 3), (N, E, 2, 3, 0), (E, S, 3, 1), (W, 0, 1, 2, S)), read_sketch, rows, "rising")

    def test_twenty_six(self):
        letters = "abcdefghijklmnopqrstuvwxyz"
        rows = (letters[:13], letters[13:])
        for slant in SLANTS:
            plan = read_sketch(rows, slant)
            self.assertEqual(len(plan), 26)
            self.assertTrue(is_plan(plan))
        self.assertIn(14, read_sketch(rows, "falling")[0])
        self.assertNotIn(14, read_sketch(rows, "rising")[0])
        self.assertIn(13, read_sketch(rows, "rising")[1])

    def test_slants(self):
        self.answers(FOUR, read_sketch, ("ab", "dc"), "falling")
        self.answers(FIVE, read_sketch, ("aabbb", "aabbb", "aaecc", "dddcc"), "rising")

    def test_three_meet(self):
        self.both(FIVE, ("abb", "aec", "ddc"))
        self.both(((W, N, 1, 2), (N, E, 2, 0), (W, 0, 1, E, S)), ("ab", "cc"))

    def test_letters(self):
        self.answers(("a", "b", "c"), sketch_letters, ("cab",))
        self.answers(("d", "z"), sketch_letters, ("zz", "dz"))
        self.answers(tuple("abcdefghijklmnopqrstuvwxyz"), sketch_letters, ("zyxwvutsrqpon", "abcdefghijklm"))
        # Letters need not lead to a plan.
        self.answers(("a", "b"), sketch_letters, ("aba",))

    def test_numbers_by_letter(self):
        self.answers(((N, E, S, 1), (W, N, 0, S)), read_sketch, ("zc",), "falling")

    def test_walk(self):
        source = random.Random(20)
        read = 0
        for _ in range(1500):
            rows = random_sketch(source, source.randint(1, 7), source.randint(1, 7), source.randint(1, 7))
            for slant in SLANTS:
                try:
                    plan = read_sketch(rows, slant)
                except InvalidSketch:
                    continue
                read += 1
                letters = sketch_letters(rows)
                want = tuple(told_circle(rows, slant, letter) for letter in letters)
                self.assert_exactly(plan, want)
                self.assertTrue(is_plan(plan))
        self.assertGreater(read, 500)

    def test_each_other_sketch_leads_to_a_plan(self):
        for height, width in ((2, 2), (2, 3), (3, 2), (1, 4), (2, 4), (3, 3)):
            letters = "abcd" if height * width < 9 else "abc"
            for signs in itertools.product(letters, repeat=height * width):
                rows = tuple("".join(signs[r * width:r * width + width]) for r in range(height))
                plans = []
                for slant in SLANTS:
                    try:
                        plans.append(read_sketch(rows, slant))
                    except InvalidSketch:
                        continue
                self.assertTrue(all(is_plan(plan) for plan in plans))

    def test_letter(self):
        for call, more in ((sketch_letters, ()), (read_sketch, ("falling",))):
            for sign in "AZ0 ~{`@_.":
                self.no_sketch("letter", (1, 2), call, ("abc", "ab" + sign), *more)
                # The first one row by row, ahead of all other faults.
                self.no_sketch("letter", (0, 1), call, ("a" + sign, sign + "a"), *more)
                self.no_sketch("letter", (2, 0), call, ("aba", "aab", sign + "aa"), *more)
            self.no_sketch("letter", (0, 1), call, ("a\n",), *more)

    def test_parts(self):
        self.no_sketch("parts", 0, read_sketch, ("aba",), "falling")
        self.no_sketch("parts", 1, read_sketch, ("aab", "baa"), "rising")
        self.no_sketch("parts", 0, read_sketch, ("ab", "ba"), "rising")
        # The least picture, whichever comes first in the rows.
        self.no_sketch("parts", 1, read_sketch, ("cab", "bac"), "falling")
        # Ahead of a corner of a lesser picture.
        self.no_sketch("parts", 3, read_sketch, ("aaad", "abae", "caad"), "falling")

    def test_corner(self):
        self.no_sketch("corner", (1, 0), read_sketch, ("aaa", "aba", "caa"), "falling")
        self.no_sketch("corner", (0, 1), read_sketch, ("aac", "aba", "aaa"), "rising")
        self.no_sketch("corner", (0, 0), read_sketch, ("caa", "aba", "aaa"), "rising")
        self.no_sketch("corner", (1, 1), read_sketch, ("aaa", "aba", "aac"), "rising")
        # The first one row by row.
        self.no_sketch("corner", (0, 3), read_sketch, ("aaaac", "abada", "eaaaa"), "falling")
        # Ahead of a hole of a lesser picture.
        self.no_sketch("corner", (1, 3), read_sketch, ("aaaccc", "abacdc", "aaaecc"), "falling")

    def test_three_of_four_equal_are_no_corner(self):
        for slant in SLANTS:
            self.answers(((W, N, E, S, 1), (W, 0, S)), read_sketch, ("aaa", "aaa", "baa"), slant)

    def test_hole(self):
        self.no_sketch("hole", 0, read_sketch, ("aaa", "aba", "aaa"), "falling")
        self.no_sketch("hole", 1, read_sketch, ("abbb", "abcb", "abbb"), "rising")
        self.no_sketch("hole", 0, read_sketch, ("aaaa", "abca", "aaaa"), "rising")
        self.no_sketch("hole", 2, read_sketch, ("ccccc", "cacbc", "ccccc"), "rising")
        # Ahead of a place that comes twice in the walk round a lesser picture.
        self.no_sketch("hole", 2, read_sketch, ("abaccc", "aaacdc", "aaaccc"), "falling")

    def test_twice(self):
        self.no_sketch("twice", 0, read_sketch, ("aba", "aaa"), "falling")
        self.no_sketch("twice", 1, read_sketch, ("bab", "bbb"), "rising")
        self.no_sketch("twice", 0, read_sketch, ("abb", "acb", "abb"), "rising")
        self.no_sketch("twice", 0, read_sketch, ("cdcaba", "cccaaa"), "rising")

    def test_twice_by_one_slant(self):
        # Where four meet, the slant ties a to c, which it has beside it already.
        rows = ("aaa", "aba", "acd")
        self.assertTrue(is_plan(read_sketch(rows, "falling")))
        self.no_sketch("twice", 0, read_sketch, rows, "rising")
        rows = ("aaa", "aba", "cda")
        self.assertTrue(is_plan(read_sketch(rows, "rising")))
        self.no_sketch("twice", 0, read_sketch, rows, "falling")

    def test_wrong(self):
        self.refuses(sketch_letters, {"rows": ("a",)}, {"rows": NOT_ROWS})
        wrong = {"rows": NOT_ROWS, "slant": NOT_SLANTS}
        self.refuses(read_sketch, {"rows": ("ab", "dc"), "slant": "rising"}, wrong)
        # What is wrong with a parameter comes ahead of what is wrong with the signs.
        self.not_usable("slant", read_sketch, ("A",), "level")


if __name__ == "__main__":
    unittest.main()
