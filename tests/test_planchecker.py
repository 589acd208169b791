"""Point 17: the checker of plans."""

import itertools
import random
import unittest

from hungwall.planchecker import is_plan, lets_plan
from tests.definition import first_fault
from tests.helping import (
    E, FIVE, N, NAMED, NOT_PLANS, ONE, S, W, HungTest, all_small_plans, grown_plan, grown_plans, pile,
)

# The circles of four pictures that are tied to one another alone.
LOOSE = ([1, 2, 3], [0, 3, 2], [0, 1, 3], [0, 2, 1])


def beside_one(circles):
    """ONE, and pictures behind it that are tied to one another alone."""
    return ONE + tuple(tuple(place + 1 for place in circle) for circle in circles)


class Checker(HungTest):
    def agree(self, thing):
        """The checker and the definition say the same; returns what they say."""
        fault = first_fault(thing)
        if fault is None:
            self.answers(len(thing), lets_plan, thing)
            self.answers(True, is_plan, thing)
        else:
            self.no_paper(*fault, lets_plan, thing)
            self.answers(False, is_plan, thing)
        return fault

    def test_plans(self):
        for plan in NAMED + tuple(grown_plans()) + tuple(all_small_plans(3)):
            self.assertIsNone(self.agree(plan))

    def test_forty(self):
        for plan in (grown_plan(40, 1), grown_plan(40, 2), pile(40)):
            self.assertIsNone(self.agree(plan))

    def test_plan(self):
        for thing in (None, True, 0, 7, "", "plan", (), [], [[W, N, E, S]], [(W, N, E, S)]):
            self.no_paper("plan", -1, lets_plan, thing)
            self.no_paper("plan", -1, lets_plan, thing=thing)
            self.answers(False, is_plan, thing)

    def test_circle(self):
        circles = (
            None, 5, "WNES", [W, N, E, S], (), (W, N), (W, N, E, E), (W, N, E, S, 0), (N, E, S, W),
            (W, N, E, 1), (W, N, E, True), (W, N, E, False), (-5, W, N, E), (W, N, "E"), (W, N, (E,)),
            (W, N, [E]), (W, N, None),
        )
        for circle in circles:
            self.no_paper("circle", 0, lets_plan, (circle,))
        for circle in circles:
            if circle != (W, N, E, S, 0):
                self.no_paper("circle", 1, lets_plan, ((W, N, 1, S), circle))
        self.no_paper("circle", 1, lets_plan, ((W, N, 1, S), (N, E, S, 1)))
        self.no_paper("circle", 0, lets_plan, ((W, N, 2, S), (N, E, S, 0)))
        self.no_paper("circle", 1, lets_plan, ((W, N, 1, S), (N, E, S, False)))

    def test_tie(self):
        self.no_paper("tie", (1, 0), lets_plan, ((W, N, E, S), (N, E, S, 0)))
        self.no_paper("tie", (0, 2), lets_plan, ((W, N, 1, 2, S), (N, E, S, 0), (W, N, E)))
        self.no_paper("tie", (0, 2), lets_plan, ((W, N, 2, 1, S), (N, E, S), (W, N, E)))

    def test_face(self):
        self.no_paper("face", (0, N), lets_plan, ((W, N, 1), (W, N, 0)))
        self.no_paper("face", (0, W), lets_plan, ((W, E, N, S),))
        self.no_paper("face", (0, 1), lets_plan, ((W, N, 1, S), (N, S, E, 0)))
        self.no_paper("face", (0, E), lets_plan, ((W, N, E), (W, N, E)))

    def test_side(self):
        self.no_paper("side", W, lets_plan, ((W, N, E, S), (W, N, E, S)))
        self.no_paper("side", W, lets_plan, tuple(tuple(circle) for circle in LOOSE))
        # Two pictures in whose circles the side after W comes after W.
        twice = ((W, N, E, S, 1), (W, N, E, S, 0))
        self.assertEqual(self.agree(twice)[0], "face")

    def test_each_side_told(self):
        # A picture of four sides, and one more that a side goes round, without a beginning.
        for side in (W, N, E, S):
            self.no_paper("side", side, lets_plan, ((W, N, E, S), (side, 2, 3), (side, 3, 1), (side, 1, 2)))

    def test_parts(self):
        self.no_paper("parts", -1, lets_plan, beside_one(LOOSE))

    def test_count(self):
        thing = glued(FIVE, (0, 1, 4), torus(4), (0, 13, 12))
        self.assertEqual(len(thing), 18)
        self.assertEqual(self.agree(thing), ("count", -1))

    def test_all_of_two(self):
        places = (W, N, E, S)
        rows = [row for size in (3, 4) for row in itertools.permutations(places, size)]
        rows = [row for row in rows if row[0] == min(row)]
        for one in rows:
            self.agree((one,))
        with_other = [row for size in (3, 4, 5) for row in itertools.permutations(places + (1,), size)]
        with_other = [row for row in with_other if row[0] == min(row)]
        for one, other in itertools.product(with_other[::3], with_other[::5]):
            self.agree((one, tuple(0 if place == 1 else place for place in other)))

    def test_changed_plans(self):
        source = random.Random(17)
        words = {}
        for plan in grown_plans(counts=(2, 3, 4, 5, 6), seeds=range(20)):
            for _ in range(20):
                fault = self.agree(changed(plan, source))
                word = fault and fault[0]
                words[word] = words.get(word, 0) + 1
        self.assertLessEqual({None, "circle", "tie", "face"}, set(words))

    def test_any_value(self):
        for thing in NOT_PLANS:
            self.assertIsNotNone(self.agree(thing))
        deep = ()
        for _ in range(30):
            deep = (deep, [1], "x")
        for thing in (deep, [deep], ((deep,),), (5,) * 5000, ("x" * 4000,)):
            self.assertIsNotNone(self.agree(thing))


def torus(size):
    """The circles of pictures on a torus, each tied to six others."""
    circles = []
    for r in range(size):
        for c in range(size):
            near = ((r - 1, c), (r - 1, c + 1), (r, c + 1), (r + 1, c), (r + 1, c - 1), (r, c - 1))
            circles.append([(a % size) * size + b % size for a, b in near])
    return circles


def glued(plan, face, circles, hole):
    """A plan with circles put into a face of it, where they have a face the other way round."""
    names = {place: face[at] for at, place in enumerate(hole)}
    for place in range(len(circles)):
        names.setdefault(place, len(plan) + len(names) - 3)
    whole = {i: list(circle) for i, circle in enumerate(plan)}
    for i, circle in enumerate(circles):
        if i not in hole:
            whole[names[i]] = [names[place] for place in circle]
        else:
            begin = hole[(hole.index(i) + 1) % 3]
            circle = circle[circle.index(begin):] + circle[:circle.index(begin)]
            at = whole[names[i]].index(names[begin]) + 1
            whole[names[i]][at:at] = [names[place] for place in circle[1:-1]]
    return tuple(tuple(from_least(whole[i])) for i in range(len(whole)))


def changed(plan, source):
    """A plan with something in its circles changed, which may make it another plan or none."""
    circles = [list(circle) for circle in plan]
    for _ in range(source.randint(1, 2)):
        circle = source.choice(circles)
        at, other = source.randrange(len(circle)), source.randrange(len(circle))
        what = source.randrange(6)
        if what == 0:
            circle[at], circle[other] = circle[other], circle[at]
        elif what == 1:
            circle[at] = source.choice((W, N, E, S) + tuple(range(len(plan) + 1)))
        elif what == 2:
            del circle[at]
        elif what == 3:
            place = source.choice((W, N, E, S) + tuple(range(len(plan))))
            circle.insert(at, place)
        elif what == 4:
            i, j = source.randrange(len(plan)), source.randrange(len(plan))
            for tied in ((i, j), (j, i)):
                if tied[1] in circles[tied[0]] and len(circles[tied[0]]) > 3:
                    circles[tied[0]].remove(tied[1])
        else:
            circle.append(source.choice((True, None, "1", (1,))))
        if not circle:
            circle.append(W)
    if source.random() < 0.9:
        circles = [from_least(circle) for circle in circles]
    return tuple(tuple(circle) for circle in circles)


def from_least(circle):
    """A circle begun at its least place, if it has only places."""
    if not all(type(place) is int for place in circle):
        return circle
    at = circle.index(min(circle))
    return circle[at:] + circle[:at]


if __name__ == "__main__":
    unittest.main()
