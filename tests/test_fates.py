"""Points 63 to 66 and 71: fates, passages, fate papers and their checker; and what points 9, 11 and 72 say of these."""

import functools
import itertools
import unittest

from hungwall.emptying import emptied
from hungwall.fatechecker import lets_fate
from hungwall.fateclasses import Fates
from hungwall.fatepapers import fate_paper
from hungwall.fates import fate_of, fates_of
from hungwall.insides import shut_plan
from hungwall.passages import passages_of, rings_around
from hungwall.placings import placings_of
from hungwall.points import points_in
from hungwall.rings import inside_of, rings_of_four, rings_of_three
from hungwall.straightways import all_ways, straight_ways
from hungwall.toldshapes import point_shapes, shapes_for
from hungwall.turnings import flipped, mirrored, renumbered, turned
from hungwall.waykinds import is_straight
from tests.helping import (
    BARS, E, FIVE, FOUR, N, NAMED, NOT_PLANS, ONE, S, TUCKED, TWO, W, HungTest, all_small_plans, grown_plans,
    kinds_of_shapes, mixed_plans, not_pictures, places_of, spun_plans,
)

# Two pictures side by side inside a ring of four pictures; a picture inside a ring of three inside one of four.
SIX = (FIVE[0], (N, E, 2, 5, 4, 0), (E, S, 3, 5, 1), (W, 0, 4, 5, 2, S), (0, 1, 5, 3), (1, 2, 3, 4))
DEEP = (
    (W, N, 1, 4, 5, 3), (N, E, 2, 4, 0), (E, S, 3, 4, 1), (W, 0, 5, 4, 2, S), (0, 1, 2, 3, 5), (0, 4, 3),
)
SMALL = NAMED + (SIX, DEEP) + tuple(grown_plans(counts=(3, 4, 5), seeds=range(3)) + spun_plans((6, 7), range(5)))
NINE = tuple(mixed_plans((8, 9), range(3)) + spun_plans((8, 9), range(8)))
PLANS = SMALL + NINE


def all_turns(ring):
    """A ring begun at each of its places, in its direction."""
    return [ring[at:] + ring[:at] for at in range(len(ring))]


def told_passage(plan, ring, way):
    """The passage that a way gives a ring, by each two places on it, and the way straight; None if there is none."""
    inside = inside_of(plan, ring)
    if not is_straight(plan, "level", way):
        return None
    for at, to in itertools.combinations(range(len(way)), 2):
        between = way[at + 1:to]
        pair = (way[at], way[to])
        if between and all(k in inside for k in between) and set(pair) in (set(ring[::2]), set(ring[1::2])):
            return pair
    return None


@functools.lru_cache(None)
def told_passages(plan, ring):
    """The set of the passages of a ring, by all ways."""
    found = {told_passage(plan, ring, way) for way in all_ways(plan, "level")}
    return tuple(sorted(found - {None}))


@functools.lru_cache(None)
def told_rings(plan, picture):
    """The rings of four pictures around a picture."""
    return tuple(
        ring for ring in rings_of_four(plan) if min(ring) >= 0 and picture in inside_of(plan, ring)
    )


@functools.lru_cache(None)
def is_tucked(plan, picture):
    """Whether a picture is inside a ring of three."""
    return any(picture in inside_of(plan, ring) for ring in rings_of_three(plan))


@functools.lru_cache(None)
def told_fate(plan, picture):
    """The fate of a picture, by (G5)."""
    if is_tucked(plan, picture):
        return "always"
    loose = any(len(told_passages(plan, ring)) > 1 for ring in told_rings(plan, picture))
    return "both" if loose else "never"


def is_told_ring(plan, thing, rings):
    """Whether a value is one of these rings, by any of its places first."""
    return any(type(thing) is tuple and thing == ring for one in rings for ring in all_turns(one))


def told_fault(plan, picture, thing):
    """The first entry of the list of lets_fate that applies to a tuple that begins with its word, or None."""
    word = thing[0]
    if word == "always":
        fit = any(sorted(ring) == sorted(thing[1]) and picture in inside_of(plan, ring) for ring in rings_of_three(plan))
        return None if fit else ("ring", -1)
    if word == "never":
        if not is_straight(plan, "level", thing[1]) or picture not in thing[1]:
            return "way", -1
        rings = [ring for ring in told_rings(plan, picture) if len(told_passages(plan, ring)) > 1]
        return ("passages", rings[0]) if rings else None
    if is_tucked(plan, picture) or not is_told_ring(plan, thing[1], told_rings(plan, picture)):
        return "ring", -1
    passages = [told_passage(plan, thing[1], way) for way in thing[2:]]
    if None in passages:
        return "way", 2 + passages.index(None)
    return ("alike", -1) if passages[0] == passages[1] else None


class TheFates(HungTest):
    def test_all(self):
        for plan in PLANS:
            want = tuple(told_fate(plan, picture) for picture in range(len(plan)))
            self.answers(want, fates_of, plan)
            self.assert_exactly(fates_of(plan=plan), want)
            for picture, fate in enumerate(want):
                self.answers(fate, fate_of, plan, picture)
                self.assert_exactly(fate_of(plan=plan, picture=picture), fate)

    def test_each_small_plan(self):
        for plan in all_small_plans(4)[::5]:
            always = {picture for picture in range(len(plan)) if is_tucked(plan, picture)}
            self.assertEqual(fates_of(plan), tuple("always" if k in always else "never" for k in range(len(plan))))

    def test_kinds(self):
        # Each fate comes several times, and so do several rings around one picture.
        counts = {word: 0 for word in ("always", "never", "both")}
        for plan in PLANS:
            for fate in fates_of(plan):
                counts[fate] += 1
        self.assertGreater(min(counts.values()), 10)

    def test_by_shapes(self):
        for at, plan in enumerate(PLANS):
            fates = fates_of(plan)
            for shapes in kinds_of_shapes(len(plan), at)[1:]:
                points = points_in(plan, shapes)
                for picture, fate in enumerate(fates):
                    self.assertNotEqual((fate, picture in points), ("always", False))
                    self.assertNotEqual((fate, picture in points), ("never", True))
            for picture, fate in enumerate(fates):
                if fate == "both":
                    self.assertIn(picture, points_in(plan, point_shapes(plan, picture)))
                    way = [way for way in straight_ways(plan, "level") if picture in way][0]
                    self.assertNotIn(picture, points_in(plan, shapes_for(plan, "level", way)))

    def test_edges(self):
        self.answers(("never",), fates_of, ONE)
        self.answers("never", fate_of, ONE, 0)
        self.answers(("never", "always"), fates_of, TUCKED)
        self.answers(("never",) * 4 + ("both",), fates_of, FIVE)
        self.answers(("never",) * 5, fates_of, BARS)
        self.answers(("never",) * 4 + ("both",) * 2, fates_of, SIX)
        self.answers(("never",) * 4 + ("both", "always"), fates_of, DEEP)

    def test_turned(self):
        for plan in PLANS:
            fates = fates_of(plan)
            for other in (mirrored(plan), flipped(plan), turned(plan)):
                self.assertEqual(fates_of(other), fates)
            rest, kept = emptied(plan)
            self.assertEqual(fates_of(rest), tuple(fates[k] for k in kept))
            order = tuple(range(len(plan)))[::-1]
            self.assertEqual(fates_of(renumbered(plan, order)), fates[::-1])
            for picture, fate in enumerate(fates):
                if min(plan[picture]) < 0:
                    self.assertNotEqual(fate, "both")

    def test_wrong(self):
        self.refuses(fates_of, {"plan": FIVE}, {"plan": NOT_PLANS})
        self.refuses(fate_of, {"plan": FIVE, "picture": 4}, {"plan": NOT_PLANS, "picture": not_pictures(5)})


class Passages(HungTest):
    def test_all(self):
        for plan in PLANS:
            for ring in rings_of_four(plan):
                if min(ring) >= 0:
                    want = told_passages(plan, ring)
                    self.is_set(want)
                    for one in all_turns(ring):
                        self.answers(want, passages_of, plan, one)
                    if len(want) > 1:
                        ends = {frozenset(pair) for pair in want}
                        self.assertEqual(ends, {frozenset(ring[::2]), frozenset(ring[1::2])})
            for picture in range(len(plan)):
                self.answers(told_rings(plan, picture), rings_around, plan, picture)
                self.assert_exactly(rings_around(plan=plan, picture=picture), told_rings(plan, picture))

    def test_edges(self):
        self.answers(((0, 2), (3, 1)), passages_of, FIVE, (0, 1, 2, 3))
        self.answers(((2, 4),), passages_of, BARS, (4, 1, 2, 0))
        self.answers(((0, 2), (3, 1)), passages_of, SIX, (3, 0, 1, 2))
        self.answers(((0, 2), (3, 1)), passages_of, DEEP, (0, 1, 2, 3))
        self.assert_exactly(passages_of(plan=FIVE, ring=(3, 0, 1, 2)), ((0, 2), (3, 1)))
        # With a side at the centre of it, a ring may have no picture's passage.
        for plan in (ONE, TWO, FOUR, TUCKED):
            for picture in range(len(plan)):
                self.answers((), rings_around, plan, picture)
        self.answers(((0, 1, 2, 3),), rings_around, DEEP, 5)

    def test_turned(self):
        for plan in PLANS:
            for a, b, c, d in [ring for ring in rings_of_four(plan) if ring[0] >= 0]:
                want = passages_of(plan, (a, b, c, d))
                back = tuple(sorted((g, f) for f, g in want))
                self.assertEqual(passages_of(mirrored(plan), (d, c, b, a)), back)
                self.assertEqual(passages_of(flipped(plan), (d, c, b, a)), want)
                shut, kept = shut_plan(plan, (a, b, c, d))
                inner = passages_of(shut, tuple(kept.index(k) for k in (a, b, c, d)))
                self.assertEqual(tuple((kept[f], kept[g]) for f, g in inner), want)

    def test_wrong(self):
        rings = (
            None, True, 0, "", "ring", (), [0, 1, 2, 3], (0, 1, 2), (0, 1, 2, 3, 4), (0, 3, 2, 1), (3, 2, 1, 0), (0, 1, 2, 4),
            (0, 1, 3, 2), (0, 1, 2, 5), (0, 0, 2, 3), (False, 1, 2, 3), (0, True, 2, 3), ((0, 1, 2, 3),), ("0", 1, 2, 3),
            (W, N, E, S), (0, 1, 2, S), (W, 0, 4, 3), ([0], 1, 2, 3),
        )
        self.refuses(passages_of, {"plan": FIVE, "ring": (0, 1, 2, 3)}, {"plan": NOT_PLANS, "ring": rings})
        # Rings of four, but not of pictures alone: with two sides, or with just one of any.
        for plan in (BARS, ((W, N, 1, S), (N, 2, S, 0), (N, E, S, 1))) + PLANS[-4:]:
            for one in (plan, turned(plan), turned(turned(plan)), turned(turned(turned(plan)))):
                for ring in rings_of_four(one):
                    if min(ring) < 0:
                        for turn in all_turns(ring):
                            self.not_usable("ring", passages_of, one, turn)
        self.refuses(rings_around, {"plan": FIVE, "picture": 4}, {"plan": NOT_PLANS, "picture": not_pictures(5)})


class Papers(HungTest):
    def lets_or_not(self, plan, picture, thing):
        """The checker does with a paper what the list says, and lets a paper of no other fate."""
        fault = told_fault(plan, picture, thing)
        if fault is None:
            self.answers(thing[0], lets_fate, plan, picture, thing)
            self.assertEqual(thing[0], told_fate(plan, picture))
        else:
            self.no_paper(fault[0], fault[1], lets_fate, plan, picture, thing)
        return fault

    def test_shown(self):
        for plan in PLANS:
            for picture, fate in enumerate(fates_of(plan)):
                paper = fate_paper(plan, picture)
                self.assertIs(type(paper), tuple)
                self.answers(paper, fate_paper, plan, picture)
                self.assert_exactly(fate_paper(plan=plan, picture=picture), paper)
                self.assert_exactly(paper[0], fate)
                self.answers(fate, lets_fate, plan, picture, paper)
                self.assert_exactly(lets_fate(plan=plan, picture=picture, thing=paper), fate)
                self.assertIsNone(told_fault(plan, picture, paper))

    def test_threes(self):
        for plan in SMALL[::2] + NINE[:3]:
            for ring in rings_of_three(plan):
                for picture, order in itertools.product(range(len(plan)), itertools.permutations(ring)):
                    self.lets_or_not(plan, picture, ("always", order))
        for places in itertools.permutations(places_of(TUCKED), 3):
            self.lets_or_not(TUCKED, 1, ("always", places))

    def test_ways(self):
        for plan in SMALL:
            for picture in range(len(plan)):
                for way in list(all_ways(plan, "level"))[:40] + list(all_ways(plan, "upright"))[:10]:
                    self.lets_or_not(plan, picture, ("never", way))

    def test_rings(self):
        faults = {}
        for plan in (FIVE, SIX, DEEP, BARS) + tuple(spun_plans((7, 8), range(3))):
            rings = [turn for ring in rings_of_four(plan) for one in (ring, ring[::-1]) for turn in all_turns(one)]
            ways = straight_ways(plan, "level") + tuple(all_ways(plan, "level"))[:5] + straight_ways(plan, "upright")[:2]
            for picture, ring in itertools.product(range(len(plan)), rings[::5]):
                for one, other in itertools.product(ways[::2], ways[1::2]):
                    fault = self.lets_or_not(plan, picture, ("both", ring, one, other))
                    faults[fault and (fault[0], fault[1])] = True
        self.assertEqual(set(faults), {None, ("ring", -1), ("way", 2), ("way", 3), ("alike", -1)})

    def test_each_sequence(self):
        for ring, picture in itertools.product(itertools.permutations(range(4)), (4, 0)):
            self.lets_or_not(FIVE, picture, ("both", ring, (0, 4, 2), (3, 4, 1)))
            self.lets_or_not(FIVE, picture, ("both", ring, (3, 4, 1), (0, 4, 2)))

    def test_strangers(self):
        for ring in all_turns((0, 1, 2, 3)):
            self.answers("both", lets_fate, FIVE, 4, ("both", ring, (0, 4, 2), (3, 4, 1)))
        # The ways need not have the picture, but give the ring a passage.
        self.answers("both", lets_fate, SIX, 5, ("both", (0, 1, 2, 3), (3, 4, 1), (0, 4, 5, 2)))
        self.no_paper("ring", -1, lets_fate, DEEP, 5, ("both", (0, 1, 2, 3), (3, 4, 1), (0, 4, 2)))
        self.answers("both", lets_fate, DEEP, 4, ("both", (0, 1, 2, 3), (3, 4, 1), (0, 4, 2)))
        self.no_paper("alike", -1, lets_fate, FIVE, 4, ("both", (0, 1, 2, 3), (0, 4, 2), (0, 4, 2)))
        self.no_paper("way", 2, lets_fate, FIVE, 4, ("both", (0, 1, 2, 3), (0, 1), (0, 1)))
        self.no_paper("way", 3, lets_fate, FIVE, 4, ("both", (0, 1, 2, 3), (0, 4, 2), (0, 1)))
        self.no_paper("passages", (0, 1, 2, 3), lets_fate, FIVE, 4, ("never", (0, 4, 2)))
        self.no_paper("way", -1, lets_fate, FIVE, 4, ("never", (0, 1)))
        self.no_paper("way", -1, lets_fate, FIVE, 0, ("never", (0, 1, 2)))
        self.answers("never", lets_fate, FIVE, 0, ("never", (0, 4, 2)))

    def test_form(self):
        ring, way, other = (0, 1, 2, 3), (0, 4, 2), (3, 4, 1)
        for thing in (
            None, True, 0, "", "never", (), ("never",), ("both",), ("always",), ["never", way], ("Never", way), ("never ", way),
            ("never", way, way), ("always", ring, ring), ("never", ring, way, other), ("always", ring, way, other),
            ("both", ring), ("both", ring, way), ("both", ring, way, other, other), ["both", ring, way, other],
            (("both",), ring, way, other), (0, way), (None, way), (True, way), ((), ()), (way, "never"), ("sometimes", way),
            ("sometimes", ring, way, other), (("never", way),), "never", "ne", "both", (["never"], way),
        ):
            self.no_paper("form", -1, lets_fate, FIVE, 4, thing)

    def test_values_in_papers(self):
        wrong = (None, True, 0, "", "way", (), [], [0, 4, 2], ((0, 4, 2),), (0,), (0, True), (False, 4, 2), (0, 4, 2, 4))
        for value in wrong + ((5,), (-1,), (W, 0), (0, 4, [2]), (0, "4", 2)):
            self.no_paper("way", -1, lets_fate, FIVE, 0, ("never", value))
            self.no_paper("way", 2, lets_fate, FIVE, 4, ("both", (0, 1, 2, 3), value, value))
            self.no_paper("way", 3, lets_fate, FIVE, 4, ("both", (0, 1, 2, 3), (0, 4, 2), value))
            self.no_paper("ring", -1, lets_fate, FIVE, 4, ("both", value, value, value))
            self.no_paper("ring", -1, lets_fate, TUCKED, 1, ("always", value))
        for value in ([0, W, N], (0, W, N, N), (0, W), (W, N, True), (False, W, N), (0, W, E), (W, N, E), (0, W, W), (W, N, 1)):
            self.no_paper("ring", -1, lets_fate, TUCKED, 1, ("always", value))
        for value in ([0, 1, 2, 3], (False, 1, 2, 3), (0, True, 2, 3), (0, 3, 2, 1), (0, 1, 2), (0, 1, 2, 3, 4), (W, N, E, S)):
            self.no_paper("ring", -1, lets_fate, FIVE, 4, ("both", value, (0, 4, 2), (3, 4, 1)))
        self.no_paper("ring", -1, lets_fate, TUCKED, 0, ("always", (0, W, N)))
        # The ring comes ahead of the ways.
        self.no_paper("ring", -1, lets_fate, FIVE, 0, ("both", (0, 1, 2, 3), None, None))

    def test_wrong(self):
        self.refuses(fate_paper, {"plan": FIVE, "picture": 4}, {"plan": NOT_PLANS, "picture": not_pictures(5)})
        good = {"plan": FIVE, "picture": 0, "thing": ("never", (0, 4, 2))}
        self.refuses(lets_fate, good, {"plan": NOT_PLANS, "picture": not_pictures(5)})
        self.not_usable("picture", lets_fate, FIVE, 5, None)
        self.not_usable("plan", lets_fate, None, None, None)


class TheClass(HungTest):
    def test_all(self):
        for circles in SMALL + NINE[::3]:
            fates = fates_of(circles)
            held = Fates(circles=circles)
            lots = [tuple(k for k, fate in enumerate(fates) if fate == word) for word in ("always", "never", "both")]
            self.assert_exactly([held.always, held.never, held.both], lots)
            for picture, fate in enumerate(fates):
                self.answers(fate, held.fate, picture)
                self.assert_exactly(held.fate(picture=picture), fate)
                paper = held.shown_paper(picture)
                self.answers(paper, held.shown_paper, picture)
                self.assert_exactly(held.shown_paper(picture=picture), paper)
                self.answers(fate, lets_fate, circles, picture, paper)
            for one, other in itertools.permutations(range(len(circles)), 2):
                self.answers(placings_of(circles, one, other), held.placings, one, other)
                self.assert_exactly(held.placings(one=one, other=other), placings_of(circles, one, other))
            self.assert_exactly([held.always, held.never, held.both], lots)

    def test_edges(self):
        held = Fates(ONE)
        self.assert_exactly((held.always, held.never, held.both), ((), (0,), ()))
        self.assert_exactly(held.shown_paper(0), ("never", (0,)))

    def test_wrong(self):
        self.refuses(Fates, {"circles": FIVE}, {"circles": NOT_PLANS})
        held = Fates(FIVE)
        self.refuses(held.fate, {"picture": 4}, {"picture": not_pictures(5)})
        self.refuses(held.shown_paper, {"picture": 4}, {"picture": not_pictures(5)})
        wrong = {"one": not_pictures(5), "other": not_pictures(5) + (0,)}
        self.refuses(held.placings, {"one": 0, "other": 4}, wrong)
        self.assert_exactly((held.always, held.never, held.both), ((), (0, 1, 2, 3), (4,)))


if __name__ == "__main__":
    unittest.main()
