"""Point 28: rings of four taken out, shut and laid in."""

import unittest

from hungwall.insides import inner_plan, laid_in, shut_plan
from hungwall.planchecker import is_plan
from hungwall.rings import inside_of, rings_of_four, rings_of_three
from hungwall.ties import row_of
from hungwall.turnings import renumbered, turned
from tests.helping import (
    BARS, E, FIVE, FOUR, N, NAMED, NOT_PLANS, ONE, S, SIDES, TUCKED, TWO, W, HungTest, grown_plan, grown_plans,
    least_first, not_pictures, not_places, pile,
)

PLANS = NAMED + tuple(grown_plans(counts=(2, 3, 4, 5, 6, 8, 10), seeds=range(6)))
LARGE = (grown_plan(40, 9), grown_plan(40, 10), pile(40))
NO_RINGS = (
    None, True, 0, "", (), (0, 1, 2), (0, 1, 2, 3, 0), [0, 1, 2, 3], (0, 3, 2, 1), (3, 2, 1, 0), (0, 2, 1, 3),
    (0, 1, 2, 4), (W, N, E, S), (0, 0, 1, 2), (False, 1, 2, 3), (0, True, 2, 3), (0, 1, 2, 5), (0, 1, 2, "3"),
    (0, 1, 2, (3,)), (0, 1, 2, [3]), (0, 1, 2, None),
)


def begun(ring):
    """A ring begun at each of its places."""
    return [ring[at:] + ring[:at] for at in range(4)]


def told_laid(outer, picture, first, inner):
    """What laid_in returns, each circle put together place by place."""
    others = [k for k in range(len(outer)) if k != picture]
    circle = outer[picture]
    beside = [circle[(circle.index(first) + at) % 4] for at in range(4)]
    names = {k: at for at, k in enumerate(others)}
    names.update({side: side for side in SIDES})
    inner_names = {k: len(others) + k for k in range(len(inner))}
    inner_names.update({side: names[place] for side, place in zip(SIDES, beside)})
    circles = []
    for k in others:
        places = []
        for place in outer[k]:
            if place != picture:
                places.append(names[place])
            else:
                places.extend(inner_names[other] for other in row_of(inner, SIDES[beside.index(k)]))
        circles.append(least_first(places))
    circles.extend(least_first([inner_names[place] for place in told]) for told in inner)
    return tuple(circles)


class Insides(HungTest):
    def test_inner(self):
        for plan in PLANS:
            for ring in rings_of_four(plan):
                inside = inside_of(plan, ring)
                for told in begun(ring):
                    names = dict(zip(told, SIDES))
                    names.update({picture: k for k, picture in enumerate(inside)})
                    circles = [least_first([names[place] for place in plan[picture]]) for picture in inside]
                    self.answers((tuple(circles), inside), inner_plan, plan, told)
                    self.assertTrue(is_plan(tuple(circles)))

    def test_inner_turns_with_the_ring(self):
        for ring in rings_of_four(BARS):
            rows = begun(ring)
            for one, other in zip(rows, rows[1:]):
                self.assertEqual(inner_plan(BARS, one)[0], turned(inner_plan(BARS, other)[0]))

    def test_shut(self):
        for plan in PLANS:
            for ring in rings_of_four(plan):
                inside = inside_of(plan, ring)
                kept = tuple(k for k in range(len(plan)) if k not in inside)
                names = {k: at for at, k in enumerate(kept)}
                names.update({side: side for side in SIDES})
                for told in begun(ring):
                    shut, got = shut_plan(plan, told)
                    self.assert_exactly(got, kept)
                    self.assertTrue(is_plan(shut))
                    self.assert_exactly(shut[-1], least_first([names[place] for place in ring]))
                    for k, old in enumerate(kept):
                        left = [names[place] for place in plan[old] if place in names]
                        self.assertEqual([place for place in shut[k] if place != len(kept)], sorted_as(left, shut[k]))
                        self.assertEqual(len(kept) in shut[k], old in ring)

    def test_laid_back(self):
        for plan in PLANS + LARGE:
            for ring in rings_of_four(plan)[:40]:
                shut, kept = shut_plan(plan, ring)
                for told in begun(ring):
                    inner, inside = inner_plan(plan, told)
                    first = told[0] if told[0] < 0 else kept.index(told[0])
                    want = renumbered(plan, kept + inside)
                    self.answers(want, laid_in, shut, len(kept), first, inner)

    def test_laid(self):
        for outer in PLANS[:30]:
            for picture, circle in enumerate(outer):
                if len(circle) == 4:
                    for first in circle:
                        for inner in (ONE, TWO, TUCKED, FOUR, BARS):
                            want = told_laid(outer, picture, first, inner)
                            self.answers(want, laid_in, outer, picture, first, inner)
                            self.assertTrue(is_plan(want))

    def test_opposite_neighbours_tied(self):
        found = 0
        for plan in PLANS:
            for picture, circle in enumerate(plan):
                pairs = (circle[:1] + circle[2:3], circle[1:2] + circle[3:])
                if len(circle) == 4 and any(tied_pair(plan, pair) for pair in pairs):
                    found += 1
                    for first in circle:
                        self.assertTrue(is_plan(laid_in(plan, picture, first, FIVE)))
        self.assertGreater(found, 0)

    def test_one_into_one(self):
        for first in SIDES:
            for inner in (ONE, TWO, FIVE):
                want = inner
                for _ in range(SIDES.index(first)):
                    want = turned(want)
                self.answers(want, laid_in, ONE, 0, first, inner)

    def test_up_to_forty(self):
        whole = laid_in(pile(20), 7, 6, pile(21))
        self.assertEqual(len(whole), 40)
        self.assertTrue(is_plan(whole))

    def test_sides_on_the_ring(self):
        self.answers((ONE, (1,)), inner_plan, TWO, (N, E, S, 0))
        self.answers((ONE, (0,)), inner_plan, TWO, (S, W, N, 1))
        self.answers((TWO, (0,)), shut_plan, TWO, (E, S, 0, N))
        self.not_usable("ring", inner_plan, TWO, (0, S, E, N))
        self.not_usable("ring", shut_plan, ONE, (W, N, E, S))

    def test_wrong(self):
        for call in (inner_plan, shut_plan):
            for ring in begun((0, 1, 2, 3)):
                self.refuses(call, {"plan": FIVE, "ring": ring}, {"plan": NOT_PLANS, "ring": NO_RINGS})
        for plan in PLANS:
            for ring in rings_of_four(plan):
                for told in begun(ring[::-1]):
                    self.not_usable("ring", inner_plan, plan, told)
                    self.not_usable("ring", shut_plan, plan, told)
            for ring in rings_of_three(plan):
                self.not_usable("ring", inner_plan, plan, ring)
                self.not_usable("ring", shut_plan, plan, ring)

    def test_wrong_laid(self):
        good = {"outer": FIVE, "picture": 4, "first": 2, "inner": TWO}
        wrong = {
            "outer": NOT_PLANS, "picture": not_pictures(5) + (0, 1, 2, 3), "first": not_places(5) + (4, W, S),
            "inner": NOT_PLANS,
        }
        self.refuses(laid_in, good, wrong)
        # A circle of three places.
        self.not_usable("picture", laid_in, TUCKED, 1, W, ONE)


def sorted_as(places, circle):
    """Places that go round as told, begun with the one that comes first in a circle."""
    left = [place for place in circle if place in places]
    at = places.index(left[0])
    return places[at:] + places[:at]


def tied_pair(plan, pair):
    """Whether two places, one of them a picture, are tied."""
    return any(one >= 0 and other in plan[one] for one, other in (pair, pair[::-1]))


if __name__ == "__main__":
    unittest.main()
