"""Points 23 and 24: plans turned, renumbered and settled."""

import itertools
import random
import unittest

from hungwall.planchecker import is_plan
from hungwall.settling import are_alike, settled, settled_order
from hungwall.ties import are_tied, row_of
from hungwall.turnings import flipped, mirrored, renumbered, turned
from tests.definition import AFTER, next_of
from tests.helping import (
    BARS, E, FIVE, FOUR, N, NAMED, NOT_PLANS, ONE, S, TWO, W, HungTest, all_small_plans, grown_plan,
    grown_plans, least_first, pile, places_of,
)

PLANS = NAMED + tuple(grown_plans()) + (grown_plan(40, 6), pile(40))
CHANGES = (
    (mirrored, {W: E, E: W, N: N, S: S}, True),
    (flipped, {N: S, S: N, W: W, E: E}, True),
    (turned, AFTER, False),
)


def shuffled(many, seed):
    """All pictures of a plan in some order."""
    return tuple(random.Random(seed).sample(range(many), many))


def told_order(plan):
    """The order in which pictures are found, told by a list of pairs."""
    first = next(i for i, circle in enumerate(plan) if W in circle and next_of(circle, W) == N)
    found = [(first, W)]
    while plan[found[-1][0]][plan[found[-1][0]].index(W) - 1] >= 0:
        circle = plan[found[-1][0]]
        found.append((circle[circle.index(W) - 1], W))
    for picture, by in found:
        place = next_of(plan[picture], by)
        while place != by:
            if place >= 0 and place not in [other for other, _ in found]:
                found.append((place, picture))
            place = next_of(plan[picture], place)
    return tuple(picture for picture, _ in found)


class Turnings(HungTest):
    def test_circles(self):
        for plan in PLANS:
            for call, names, back in CHANGES:
                circles = []
                for circle in plan:
                    places = [names.get(place, place) for place in circle]
                    circles.append(least_first(places[::-1] if back else places))
                self.answers(tuple(circles), call, plan)
                self.assertTrue(is_plan(call(plan)))

    def test_ties(self):
        for plan in PLANS[:25]:
            for call, names, _ in CHANGES:
                for one, other in itertools.product(places_of(plan), repeat=2):
                    new = are_tied(call(plan), names.get(one, one), names.get(other, other))
                    self.assertEqual(new, are_tied(plan, one, other))

    def test_edges(self):
        for call, _, _ in CHANGES:
            self.answers(ONE, call, ONE)
        self.answers(pile(2), turned, TWO)
        self.answers(mirrored(TWO), turned, pile(2))
        self.answers(TWO, flipped, TWO)
        self.answers(pile(2), mirrored, pile(2))

    def test_back(self):
        for plan in PLANS:
            self.assertEqual(mirrored(mirrored(plan)), plan)
            self.assertEqual(flipped(flipped(plan)), plan)
            self.assertEqual(turned(turned(turned(turned(plan)))), plan)
            self.assertEqual(flipped(plan), mirrored(turned(turned(plan))))

    def test_renumbered(self):
        self.answers(mirrored(TWO), renumbered, TWO, (1, 0))
        for at, plan in enumerate(PLANS):
            many = len(plan)
            order = shuffled(many, at)
            new = renumbered(plan, order)
            self.assertTrue(is_plan(new))
            for k, old in enumerate(order):
                places = [order.index(place) if place >= 0 else place for place in plan[old]]
                self.assert_exactly(new[k], least_first(places))
            self.assertEqual(renumbered(plan, tuple(range(many))), plan)
            self.assertEqual(renumbered(new, tuple(order.index(k) for k in range(many))), plan)

    def test_wrong(self):
        for call, _, _ in CHANGES:
            self.refuses(call, {"plan": FIVE}, {"plan": NOT_PLANS})
        orders = (
            None, True, 0, "", "01234", (), [0, 1, 2, 3, 4], (0, 1, 2, 3), (0, 1, 2, 3, 3), (0, 1, 2, 3, 5),
            (1, 2, 3, 4, 5), (0, 1, 2, 3, 4, 4), (0, True, 2, 3, 4), (False, 1, 2, 3, 4), (0, 1, 2, 3, "4"),
            (0, 1, 2, 3, (4,)), (0, 1, 2, 3, None), (-1, 0, 1, 2, 3), (0, 1, 2, 3, -1),
        )
        self.refuses(renumbered, {"plan": FIVE, "order": (4, 3, 2, 1, 0)}, {"plan": NOT_PLANS, "order": orders})


class Settling(HungTest):
    def test_orders(self):
        self.answers((0, 3, 1, 2), settled_order, FOUR)
        self.answers((0,), settled_order, ONE)
        self.answers((0, 1), settled_order, TWO)
        # W finds 0, 2 and 1 of BARS; 0 finds 4 next, going on from W, and then 3.
        self.answers((0, 2, 1, 4, 3), settled_order, BARS)
        for plan in PLANS:
            order = told_order(plan)
            self.answers(order, settled_order, plan)
            self.answers(renumbered(plan, order), settled, plan)
            self.assertEqual(order[:len(row_of(plan, W))], row_of(plan, W))

    def test_settled_stay(self):
        for plan in PLANS:
            self.assertTrue(is_plan(settled(plan)))
            self.assertEqual(settled(settled(plan)), settled(plan))
            self.assertEqual(settled_order(settled(plan)), tuple(range(len(plan))))

    def test_alike(self):
        for at, plan in enumerate(PLANS):
            other = renumbered(plan, shuffled(len(plan), at))
            self.answers(True, are_alike, plan, other)
            self.assertEqual(settled(plan), settled(other))
        self.answers(False, are_alike, FOUR, FIVE)
        self.answers(False, are_alike, FOUR, mirrored(FOUR))
        self.answers(False, are_alike, TWO, pile(2))

    def test_alike_of_all(self):
        plans = [plan for plan in all_small_plans(3) if len(plan) == 3]
        for one in plans:
            alike = {renumbered(one, order) for order in itertools.permutations(range(3))}
            for other in plans:
                self.assertIs(are_alike(one, other), other in alike)

    def test_wrong(self):
        for call in (settled_order, settled):
            self.refuses(call, {"plan": FIVE}, {"plan": NOT_PLANS})
        self.refuses(are_alike, {"one": FIVE, "other": ONE}, {"one": NOT_PLANS, "other": NOT_PLANS})


if __name__ == "__main__":
    unittest.main()
