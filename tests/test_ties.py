"""Points 18 and 19: ties, rows and faces; the consequences that follow them."""

import itertools
import unittest

from hungwall.faces import faces_at, faces_of
from hungwall.ties import are_tied, place_after, place_ahead, row_of, ties_of
from tests.definition import AFTER, next_of
from tests.helping import (
    E, FIVE, FOUR, N, NAMED, NOT_PLANS, ONE, S, SIDES, TUCKED, W, HungTest, grown_plan, grown_plans,
    not_pictures, not_places, pile, places_of,
)

PLANS = NAMED + tuple(grown_plans()) + (grown_plan(40, 3), pile(40))


def told_tied(plan, one, other):
    """Whether two places are tied, as the document says it."""
    if one == other:
        return False
    if one in SIDES and other in SIDES:
        return AFTER[AFTER[one]] != other
    in_one = one >= 0 and other in plan[one]
    return in_one or (other >= 0 and one in plan[other])


def told_faces(plan):
    """All faces, as the document says them."""
    found = set()
    for i, circle in enumerate(plan):
        found |= {tuple(sorted((i, place, next_of(circle, place)))) for place in circle}
    return tuple(sorted(found))


class Ties(HungTest):
    def test_all_pairs(self):
        for plan in PLANS[:30]:
            places = places_of(plan)
            pairs = []
            for one, other in itertools.product(places, repeat=2):
                tied = told_tied(plan, one, other)
                self.answers(tied, are_tied, plan, one, other)
                if tied and one < other:
                    pairs.append((one, other))
            self.answers(tuple(pairs), ties_of, plan)

    def test_ties_of_all(self):
        for plan in PLANS:
            pairs = itertools.combinations(places_of(plan), 2)
            self.answers(tuple(pair for pair in pairs if told_tied(plan, *pair)), ties_of, plan)
            self.assertEqual(len(ties_of(plan)), 3 * len(plan) + 5)

    def test_after_and_ahead(self):
        for plan in PLANS:
            for i, circle in enumerate(plan):
                for at, place in enumerate(circle):
                    self.answers(place, place_after, plan, i, circle[at - 1])
                    self.answers(circle[at - 1], place_ahead, plan, i, place)

    def test_rows(self):
        self.answers((0, 3), row_of, FOUR, W)
        self.answers((3, 2), row_of, FOUR, S)
        self.answers((2, 1), row_of, FOUR, E)
        self.answers((1, 0), row_of, FOUR, N)
        for plan in PLANS:
            for side in SIDES:
                row = row_of(plan, side)
                self.assertIs(type(row), tuple)
                self.assertEqual(sorted(row), [i for i, circle in enumerate(plan) if side in circle])
                self.assertEqual(next_of(plan[row[0]], side), AFTER[side])
                for one, other in zip(row, row[1:]):
                    self.assertEqual(next_of(plan[one], other), side)
                self.assertEqual(row[0], row_of(plan, AFTER[side])[-1])

    def test_wrong(self):
        good = {"plan": FIVE, "one": 4, "other": 0}
        wrong = {"plan": NOT_PLANS, "one": not_places(5), "other": not_places(5)}
        self.refuses(are_tied, good, wrong)
        self.refuses(ties_of, {"plan": FIVE}, {"plan": NOT_PLANS})
        good = {"plan": FIVE, "picture": 1, "place": 4}
        wrong = {"plan": NOT_PLANS, "picture": not_pictures(5), "place": not_places(5) + (1, 3, W, S)}
        self.refuses(place_after, good, wrong)
        self.refuses(place_ahead, good, wrong)
        self.not_usable("place", place_after, ONE, 0, 0)
        self.refuses(row_of, {"plan": FIVE, "side": S}, {"plan": NOT_PLANS, "side": not_places(0)})


class Faces(HungTest):
    def test_faces(self):
        self.answers(((W, N, 0), (W, S, 0), (N, E, 0), (E, S, 0)), faces_of, ONE)
        for plan in PLANS:
            self.answers(told_faces(plan), faces_of, plan)
            self.assertEqual(len(faces_of(plan)), 2 * len(plan) + 2)

    def test_faces_at(self):
        for plan in PLANS[:40] + PLANS[-2:]:
            faces = told_faces(plan)
            for one, other in itertools.product(places_of(plan), repeat=2):
                if not told_tied(plan, one, other):
                    self.not_usable("other", faces_at, plan, one, other)
                else:
                    sets = [set(face) - {one, other} for face in faces if {one, other} <= set(face)]
                    want = tuple(sorted(place for rest in sets for place in rest))
                    self.assert_exactly(faces_at(plan, one, other), want)
                    self.assertEqual(len(want), 1 if max(one, other) < 0 else 2)

    def test_edges(self):
        self.answers((0,), faces_at, ONE, N, W)
        self.answers((1,), faces_at, TUCKED, W, N)
        for one, other in ((W, E), (N, S), (W, W), (0, 0), (1, 3)):
            self.not_usable("other", faces_at, FOUR, one, other)

    def test_wrong(self):
        self.refuses(faces_of, {"plan": FIVE}, {"plan": NOT_PLANS})
        good = {"plan": FIVE, "one": 4, "other": 0}
        wrong = {"plan": NOT_PLANS, "one": not_places(5), "other": not_places(5) + (4,)}
        self.refuses(faces_at, good, wrong)


if __name__ == "__main__":
    unittest.main()
