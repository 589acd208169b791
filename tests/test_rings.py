"""Points 25, 26 and 27: lots, rings, what is inside them, and plans emptied."""

import itertools
import unittest

from hungwall.emptying import emptied
from hungwall.faces import faces_at, faces_of
from hungwall.lots import hangs_together, lot_parts, rim_of
from hungwall.planchecker import is_plan
from hungwall.ringclasses import Rings
from hungwall.rings import inside_of, rings_of_four, rings_of_three
from hungwall.ties import place_after
from tests.helping import (
    BARS, E, FIVE, FOUR, N, NAMED, NOT_PLANS, ONE, S, SIDES, TUCKED, TWO, W, HungTest, all_small_plans, grown_plan,
    grown_plans, lots_of, not_lots, not_pictures, pile, places_of,
)
from tests.test_ties import told_faces, told_tied

SMALL = NAMED + tuple(grown_plans(counts=(1, 2, 3, 4, 5), seeds=range(8)))
PLANS = SMALL + tuple(grown_plans(counts=(7, 9, 12), seeds=range(8))) + (grown_plan(40, 7), grown_plan(40, 8), pile(40))


def reached(plan, starts, free):
    """All places that chains of ties within the free ones reach from the starts."""
    found = set(starts)
    grows = True
    while grows:
        beside = {one for one in free for other in found if told_tied(plan, one, other)}
        grows = not beside <= found
        found |= beside
    return found


def told_inside(plan, ring):
    """The pictures that no chain of ties, free of the ring, joins to a side that is not on it."""
    free = [place for place in places_of(plan) if place not in ring]
    outer = reached(plan, [side for side in SIDES if side not in ring], free)
    return tuple(place for place in free if place not in outer)


def told_parts(plan, lot):
    """The parts of a lot, the one with the least picture first."""
    return tuple(sorted({tuple(sorted(reached(plan, [picture], lot))) for picture in lot}))


def told_threes(plan):
    """All rings of three, as the document says them."""
    faces = told_faces(plan)
    triples = itertools.combinations(places_of(plan), 3)
    tied = [t for t in triples if all(told_tied(plan, *pair) for pair in itertools.combinations(t, 2))]
    return tuple(triple for triple in tied if triple not in faces)


def told_fours(plan):
    """All rings of four, both ways round and begun at each place."""
    found = []
    for a, b, c, d in itertools.permutations(places_of(plan), 4):
        round_it = all(told_tied(plan, *pair) for pair in ((a, b), (b, c), (c, d), (d, a)))
        if round_it and not told_tied(plan, a, c) and not told_tied(plan, b, d) and max(a, b, c, d) >= 0:
            found.append((a, b, c, d))
    return found


def told_clockwise(plan, ring):
    """Whether b comes after a in the circle of the picture inside that makes a face with both."""
    inside, = set(faces_at(plan, ring[0], ring[1])) & set(told_inside(plan, ring))
    return place_after(plan, inside, ring[0]) == ring[1]


def ways_round(ring):
    """A ring begun at each of its places, and each of these the other way round."""
    begun = [ring[at:] + ring[:at] for at in range(len(ring))]
    return begun + [other[::-1] for other in begun]


class Lots(HungTest):
    def test_all_lots(self):
        for plan in SMALL:
            for lot in lots_of(plan):
                parts = told_parts(plan, lot)
                self.assert_exactly(lot_parts(plan, lot), parts)
                self.assert_exactly(hangs_together(plan, lot), len(parts) == 1)
                outside = [place for place in places_of(plan) if place not in lot]
                rim = [place for place in outside if any(told_tied(plan, place, k) for k in lot)]
                self.assert_exactly(rim_of(plan, lot), tuple(rim))

    def test_none_and_all(self):
        for plan in PLANS:
            lot = tuple(range(len(plan)))
            self.answers(False, hangs_together, plan, ())
            self.answers((), lot_parts, plan, ())
            self.answers((), rim_of, plan, ())
            self.answers(True, hangs_together, plan, lot)
            self.answers((lot,), lot_parts, plan, lot)
            self.answers(SIDES, rim_of, plan, lot)

    def test_parts(self):
        self.answers(((1,), (3,)), lot_parts, FOUR, (1, 3))
        self.answers((tuple(range(0, 40)),), lot_parts, pile(40), tuple(range(40)))
        evens = tuple(range(0, 40, 2))
        self.answers(tuple((k,) for k in evens), lot_parts, pile(40), evens)
        self.answers((W, N, E) + tuple(range(1, 40, 2)), rim_of, pile(40), evens)
        self.answers((W, E, 5, 8), rim_of, pile(40), (6, 7))

    def test_wrong(self):
        for call in (hangs_together, lot_parts, rim_of):
            self.refuses(call, {"plan": FIVE, "lot": (0, 4)}, {"plan": NOT_PLANS, "lot": not_lots(5)})


class RingsOfPlans(HungTest):
    def test_threes(self):
        for plan in SMALL:
            self.answers(told_threes(plan), rings_of_three, plan)

    def test_fours(self):
        for plan in SMALL:
            rings = told_fours(plan)
            found = tuple(ring for ring in rings if ring[0] == min(ring) and told_clockwise(plan, ring))
            self.answers(tuple(sorted(found)), rings_of_four, plan)
            self.assertEqual(len(rings), 8 * len(found))
            for ring in rings:
                self.assertNotEqual(told_clockwise(plan, ring), told_clockwise(plan, ring[::-1]))

    def test_none(self):
        for call in (rings_of_three, rings_of_four):
            self.answers((), call, ONE)
        self.answers((), rings_of_four, TUCKED)

    def test_rings_with_sides(self):
        self.answers(((W, N, 1, S), (N, E, S, 0)), rings_of_four, TWO)
        self.answers(((W, N, E, 1), (W, 0, E, S)), rings_of_four, pile(2))
        self.answers(((W, N, 0),), rings_of_three, TUCKED)
        self.assertIn((W, 0, E, 1), rings_of_four(BARS))

    def test_large(self):
        for plan in PLANS[len(SMALL):]:
            for call, length in ((rings_of_three, 3), (rings_of_four, 4)):
                found = call(plan)
                self.is_set(found)
                for ring in found:
                    self.assertEqual((len(ring), ring[0]), (length, min(ring)))
            faces = faces_of(plan)
            self.assertFalse(set(faces) & set(rings_of_three(plan)))

    def test_pile_of_forty(self):
        rings = rings_of_four(pile(40))
        # From W to E and back through two places of N, the pictures and S, between which something is.
        places = (N,) + tuple(range(40)) + (S,)
        pairs = [(a, b) for at, a in enumerate(places) for b in places[at + 2:] if (a, b) != (N, S)]
        self.answers(tuple(sorted((W, a, E, b) for a, b in pairs)), rings_of_four, pile(40))
        self.assertEqual(len(rings), 41 * 40 // 2 - 1)

    def test_inside(self):
        for plan in SMALL:
            for ring in rings_of_three(plan):
                for order in itertools.permutations(ring):
                    self.assert_exactly(inside_of(plan, order), told_inside(plan, ring))
            for ring in told_fours(plan):
                self.assert_exactly(inside_of(plan, ring), told_inside(plan, ring))

    def test_inside_hangs_together(self):
        for plan in PLANS:
            for ring in rings_of_three(plan) + rings_of_four(plan)[:60]:
                inside = inside_of(plan, ring)
                self.is_set(inside)
                self.assertTrue(hangs_together(plan, inside))
                self.assertEqual(rim_of(plan, inside), tuple(sorted(ring)))

    def test_no_others_are_rings(self):
        for plan in NAMED[:5] + tuple(all_small_plans(2)):
            threes = set(told_threes(plan))
            fours = set(told_fours(plan))
            for ring in itertools.permutations(places_of(plan), 3):
                if tuple(sorted(ring)) not in threes:
                    self.not_usable("ring", inside_of, plan, ring)
            for ring in itertools.permutations(places_of(plan), 4):
                if ring not in fours:
                    self.not_usable("ring", inside_of, plan, ring)

    def test_clockwise(self):
        for plan in PLANS:
            for ring in rings_of_four(plan)[:60]:
                self.assertTrue(told_clockwise(plan, ring))

    def test_wrong(self):
        for call in (rings_of_three, rings_of_four):
            self.refuses(call, {"plan": FIVE}, {"plan": NOT_PLANS})
        rings = (
            None, True, 0, "", (), (0,), (0, 1), [0, 1, 2, 3], (0, 1, 2), (0, 1, 2, 4), (0, 2, 1, 3), (0, 1, 2, 3, 0),
            (0, 1, 2, 3, 4), (W, N, E, S), (W, N, E), (0, 1, 4), (0, 0, 1, 2), (0, 1, 0, 1), (0, 1, 2, 5),
            (0, 1, 2, -5), (False, 1, 2, 3), (0, True, 2, 3), (0, 1, 2, "3"), (0, 1, 2, None), (0, 1, 2, (3,)),
            (0, 1, 2, [3]), (W, N, 0), (W, N, 0, 3),
        )
        self.refuses(inside_of, {"plan": FIVE, "ring": (3, 2, 1, 0)}, {"plan": NOT_PLANS, "ring": rings})
        self.not_usable("ring", inside_of, ONE, (W, N, E, S))
        self.not_usable("ring", inside_of, TUCKED, (W, N, 1))
        self.not_usable("ring", inside_of, TUCKED, [W, N, 0])
        self.answers((1,), inside_of, TUCKED, (0, W, N))


class Emptied(HungTest):
    def test_small(self):
        for plan in SMALL + tuple(all_small_plans(3)):
            gone = {picture for ring in told_threes(plan) for picture in told_inside(plan, ring)}
            kept = tuple(picture for picture in range(len(plan)) if picture not in gone)
            new, told = emptied(plan)
            self.assert_exactly(told, kept)
            self.assertEqual(len(new), len(kept))
            for k, old in enumerate(kept):
                left = [kept.index(place) if place >= 0 else place for place in plan[old] if place not in gone]
                self.assertEqual(set(new[k]), set(left))
                at = left.index(min(left))
                self.assert_exactly(new[k], tuple(left[at:] + left[:at]))

    def test_no_rings_left(self):
        for plan in PLANS + tuple(all_small_plans(3)):
            new, kept = emptied(plan)
            self.is_set(kept)
            self.assertTrue(is_plan(new))
            self.assertEqual(rings_of_three(new), ())
            self.answers((new, tuple(range(len(new)))), emptied, new)

    def test_edges(self):
        self.answers((ONE, (0,)), emptied, TUCKED)
        self.answers((ONE, (0,)), emptied, ONE)
        self.answers((FIVE, (0, 1, 2, 3, 4)), emptied, FIVE)

    def test_wrong(self):
        self.refuses(emptied, {"plan": FIVE}, {"plan": NOT_PLANS})


class RingClass(HungTest):
    def test_attributes(self):
        for plan in PLANS:
            rings = Rings(plan)
            self.assert_exactly(rings.threes, rings_of_three(plan))
            self.assert_exactly(rings.fours, rings_of_four(plan))
            kept = emptied(plan)[1]
            self.assert_exactly(rings.always, tuple(k for k in range(len(plan)) if k not in kept))

    def test_inside_and_around(self):
        for plan in SMALL:
            rings = Rings(plan=plan)
            for ring in rings.threes + rings.fours:
                for other in ways_round(ring):
                    self.answers(told_inside(plan, ring), rings.inside, other)
            for picture in range(len(plan)):
                around = tuple(ring for ring in rings.fours if picture in told_inside(plan, ring))
                self.answers(around, rings.around, picture)

    def test_edges(self):
        self.answers((1,), Rings(TUCKED).inside, (W, N, 0))
        self.answers((), Rings(TUCKED).around, 1)
        self.answers(((0, 1, 2, 3),), Rings(FIVE).around, 4)
        self.assert_exactly(Rings(ONE).always, ())

    def test_wrong(self):
        self.refuses(Rings, {"plan": FIVE}, {"plan": NOT_PLANS})
        rings = Rings(FIVE)
        wrong = (None, True, (), (W, N, E, S), (0, 1, 4), (0, 2, 1, 3), [0, 1, 2, 3], (0, True, 2, 3))
        self.refuses(rings.inside, {"ring": (0, 1, 2, 3)}, {"ring": wrong})
        self.refuses(rings.around, {"picture": 4}, {"picture": not_pictures(5)})


if __name__ == "__main__":
    unittest.main()
