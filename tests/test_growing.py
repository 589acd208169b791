"""Points 29, 30 and 31: pictures parted, joined and taken out, ties turned, plans grown."""

import itertools
import unittest

from hungwall.faces import faces_at
from hungwall.growing import can_join, joined, parted
from hungwall.growths import grown, growth_of
from hungwall.planchecker import is_plan
from hungwall.ties import are_tied, ties_of
from hungwall.tieturns import can_turn, taken_out, turned_tie
from tests.helping import (
    BARS, E, FIVE, FOUR, N, NAMED, NOT_PLANS, ONE, S, SIDES, TUCKED, TWO, W, HungTest, all_small_plans, grown_plan,
    grown_plans, not_pictures, not_places, parting, pile, places_of,
)
from tests.test_ties import told_tied

PLANS = NAMED + tuple(grown_plans(counts=(2, 3, 4, 5, 6, 8), seeds=range(6)))
LARGE = (grown_plan(39, 11), grown_plan(39, 12), pile(39))


def told_join(plan, one, other):
    """Whether two pictures can be joined, as the document says it."""
    both = [k for k in places_of(plan) if told_tied(plan, k, one) and told_tied(plan, k, other)]
    return one != other and told_tied(plan, one, other) and len(both) == 2


def without(ties, place):
    """Ties but for those of a picture, greater numbers fallen by one."""
    left = [tie for tie in ties if place not in tie]
    return tuple(sorted(tuple(k - (k > place) for k in tie) for tie in left))


class Parting(HungTest):
    def test_all(self):
        for plan in PLANS:
            for picture, circle in enumerate(plan):
                for first, last in itertools.permutations(circle, 2):
                    want = parting(plan, picture, first, last)
                    self.answers(want, parted, plan, picture, first, last)
                    self.assertTrue(is_plan(want))

    def test_edges(self):
        self.answers(TWO, parted, ONE, 0, N, S)
        # First next to last: the new picture has three neighbours; the other way round the old one has.
        self.answers(((W, N, E, S, 1), (W, 0, S)), parted, ONE, 0, S, W)
        self.answers(((W, 1, S), (W, N, E, S, 0)), parted, ONE, 0, W, S)
        for plan in LARGE:
            for picture in (0, 17, 38):
                circle = plan[picture]
                want = parting(plan, picture, circle[1], circle[-1])
                self.answers(want, parted, plan, picture, circle[1], circle[-1])
                self.assertTrue(is_plan(want))

    def test_wrong(self):
        good = {"plan": FIVE, "picture": 4, "first": 2, "last": 1}
        wrong = {
            "plan": NOT_PLANS, "picture": not_pictures(5), "first": not_places(5) + (4, W, S),
            "last": not_places(5) + (4, E, N, 2),
        }
        self.refuses(parted, good, wrong)
        for picture, circle in enumerate(FIVE):
            for place in circle:
                self.not_usable("last", parted, FIVE, picture, place, place)


class Joining(HungTest):
    def test_can_join(self):
        for plan in PLANS:
            for one, other in itertools.product(range(len(plan)), repeat=2):
                self.answers(told_join(plan, one, other), can_join, plan, one, other)

    def test_joined(self):
        for plan in PLANS:
            for one, other in itertools.product(range(len(plan)), repeat=2):
                if not told_join(plan, one, other):
                    self.not_usable("other", joined, plan, one, other)
                    continue
                got = joined(plan, one, other)
                self.assertTrue(is_plan(got))
                self.answers(got, joined, plan, other, one)
                lesser, greater = sorted((one, other))
                names = {k: k - (k > greater) for k in places_of(plan)}
                names[greater] = lesser
                pairs = {tuple(sorted((names[a], names[b]))) for a, b in ties_of(plan)}
                self.assertEqual(ties_of(got), tuple(sorted(pairs - {(lesser, lesser)})))

    def test_some_partner(self):
        for plan in PLANS + LARGE:
            if len(plan) > 1:
                for picture in range(len(plan)):
                    others = [other for other in plan[picture] if other >= 0]
                    self.assertTrue(any(can_join(plan, picture, other) for other in others))

    def test_joined_undoes_parted(self):
        for plan in PLANS:
            for picture, circle in enumerate(plan):
                for first, last in itertools.permutations(circle, 2):
                    new = parted(plan, picture, first, last)
                    self.assertIs(can_join(new, picture, len(plan)), True)
                    self.assertEqual(joined(new, picture, len(plan)), plan)
                    self.assertEqual(joined(new, len(plan), picture), plan)
        for plan in LARGE:
            new = parted(plan, 20, plan[20][0], plan[20][2])
            self.answers(plan, joined, new, 39, 20)

    def test_edges(self):
        self.answers(ONE, joined, TWO, 0, 1)
        self.answers(ONE, joined, TUCKED, 1, 0)
        self.answers(False, can_join, ONE, 0, 0)
        self.answers(False, can_join, FOUR, 1, 3)
        self.answers(False, can_join, BARS, 0, 1)
        self.not_usable("other", joined, ONE, 0, 0)

    def test_wrong(self):
        for call in (can_join, joined):
            wrong = {"plan": NOT_PLANS, "one": not_pictures(5), "other": not_pictures(5)}
            self.refuses(call, {"plan": FIVE, "one": 4, "other": 0}, wrong)


class Turning(HungTest):
    def told_turn(self, plan, one, other):
        """Whether a tie can be turned, as the document says it."""
        if not told_tied(plan, one, other) or (one in SIDES and other in SIDES):
            return False
        near, far = faces_at(plan, one, other)
        opposite = near in SIDES and far in SIDES and not told_tied(plan, near, far)
        return not told_tied(plan, near, far) and not opposite

    def test_all(self):
        turned = 0
        for plan in PLANS:
            for one, other in itertools.product(places_of(plan), repeat=2):
                can = self.told_turn(plan, one, other)
                self.answers(can, can_turn, plan, one, other)
                if not can:
                    self.not_usable("other", turned_tie, plan, one, other)
                    continue
                turned += 1
                new = turned_tie(plan, one, other)
                self.answers(new, turned_tie, plan, other, one)
                self.assertTrue(is_plan(new))
                near, far = faces_at(plan, one, other)
                ties = set(ties_of(plan)) - {tuple(sorted((one, other)))} | {(near, far)}
                self.assertEqual(ties_of(new), tuple(sorted(ties)))
                self.assertEqual(turned_tie(new, far, near), plan)
                self.assertEqual(turned_tie(new, near, far), plan)
        self.assertGreater(turned, 100)

    def test_edges(self):
        self.answers(False, can_turn, ONE, W, 0)
        self.answers(False, can_turn, TWO, 0, 1)
        self.answers(False, can_turn, TWO, W, N)
        self.answers(False, can_turn, TWO, W, E)
        self.answers(False, can_turn, TWO, 0, 0)
        self.answers(False, can_turn, FOUR, 1, 3)
        self.answers(((W, N, E, S, 1), (W, 0, S)), turned_tie, pile(2), 1, E)
        for plan in LARGE:
            turning = [pair for pair in ties_of(plan) if can_turn(plan, *pair)]
            self.assertTrue(all(is_plan(turned_tie(plan, *pair)) for pair in turning))

    def test_wrong(self):
        good = {"plan": FIVE, "one": 4, "other": 0}
        wrong = {"plan": NOT_PLANS, "one": not_places(5), "other": not_places(5)}
        self.refuses(can_turn, good, wrong)
        good = {"plan": FOUR, "one": 2, "other": 0}
        wrong = {"plan": NOT_PLANS, "one": not_places(4), "other": not_places(4) + (W, N, 2)}
        self.refuses(turned_tie, good, wrong)


class Taking(HungTest):
    def test_all(self):
        for plan in PLANS:
            for picture, circle in enumerate(plan):
                if len(circle) != 3:
                    self.not_usable("picture", taken_out, plan, picture)
                    continue
                new = taken_out(plan, picture)
                self.answers(new, taken_out, plan, picture)
                self.assertTrue(is_plan(new))
                self.assertEqual(ties_of(new), without(ties_of(plan), picture))

    def test_undoes_parted(self):
        for plan in PLANS + LARGE:
            for picture, circle in enumerate(plan):
                for at, last in enumerate(circle):
                    new = parted(plan, picture, circle[at - 1], last)
                    self.assertEqual(taken_out(new, len(plan)), plan)

    def test_edges(self):
        self.answers(ONE, taken_out, TUCKED, 1)
        # The numbers above fall.
        plan = parted(TUCKED, 0, N, E)
        self.answers(((W, N, 1, E, S), (N, E, 0)), taken_out, plan, 1)
        self.not_usable("picture", taken_out, ONE, 0)
        self.not_usable("picture", taken_out, FIVE, 4)

    def test_wrong(self):
        good = {"plan": TUCKED, "picture": 1}
        self.refuses(taken_out, good, {"plan": NOT_PLANS, "picture": not_pictures(2) + (0,)})


class Growths(HungTest):
    def test_there_and_back(self):
        for plan in PLANS + LARGE + (grown_plan(40, 13), pile(40)) + tuple(all_small_plans(3)):
            steps = growth_of(plan)
            self.answers(steps, growth_of, plan)
            self.assertIs(type(steps), tuple)
            self.assertEqual({(type(step), len(step)) for step in steps} or {(tuple, 3)}, {(tuple, 3)})
            self.assertEqual(len(steps), len(plan) - 1)
            self.answers(plan, grown, steps)

    def test_grown(self):
        self.answers(ONE, grown, ())
        self.answers(FOUR, grown, ((0, N, S), (1, E, 0), (0, 2, W)))
        self.answers(FIVE, grown, ((0, N, S), (1, E, 0), (0, 2, W), (0, 1, 3)))
        plan, steps = ONE, []
        for many in range(1, 40):
            step = (many // 2, plan[many // 2][0], plan[many // 2][-1])
            steps.append(step)
            plan = parting(plan, *step)
        self.answers(plan, grown, tuple(steps))
        self.assertEqual(len(plan), 40)

    def test_no_steps(self):
        step = (0, N, S)
        things = (
            None, True, 0, "", "abc", [], [step], step, (step, None), (step, ()), (step, (0, N)), (step, (0, N, S, W)),
            (step, [0, N, S]), (step, "abc"), {}, ((0, W), step),
        )
        for thing in things:
            self.no_paper("steps", -1, grown, thing)
            self.no_paper("steps", -1, grown, steps=thing)

    def test_no_step(self):
        wrong = (
            (1, N, S), (-1, N, S), (True, N, S), (False, N, S), (None, N, S), ("0", N, S), ((0,), N, S), ([0], N, S),
            (0, N, N), (0, 0, S), (0, 1, S), (0, -5, S), (0, None, S), (0, "N", S), (0, [N], S), (0, N, 0), (0, N, 1),
            (0, N, True), (0, N, None), (0, N, [S]), (0, N, (S,)),
        )
        for step in wrong:
            self.no_paper("step", 0, grown, (step,))
            self.no_paper("step", 0, grown, steps=(step, (5, 5, 5)))
        self.no_paper("step", 1, grown, ((0, N, S), (1, N, W)))
        self.no_paper("step", 1, grown, ((0, N, S), (0, True, S)))
        self.no_paper("step", 1, grown, ((0, N, S), (2, N, S), (3, N, S)))
        self.no_paper("step", 2, grown, ((0, N, S), (1, N, S), (3, N, S)))
        # That a later step is no triple is told first.
        self.no_paper("steps", -1, grown, ((7, N, S), None))

    def test_wrong(self):
        self.refuses(growth_of, {"plan": FIVE}, {"plan": NOT_PLANS})


if __name__ == "__main__":
    unittest.main()
