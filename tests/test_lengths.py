"""Point 38: lengths of ways, shortest ways, and what is ahead of pictures."""

import itertools
import random
import unittest

from hungwall.lengths import aheads, length_of, shortest_way
from hungwall.straightways import all_ways, straight_ways
from tests.helping import (
    E, FIVE, N, NAMED, NOT_KINDS, NOT_PLANS, ONE, S, TUCKED, TWO, W, HungTest, grown_plans, mixed_plans, not_rows,
    not_tables, pile, quotient_of,
)
from tests.judge import number, pair, pairs
from tests.test_ties import told_tied
from tests.test_ways import told_way

KINDS = ("level", "upright")
ENDS = {"level": (W, E), "upright": (N, S)}
SMALL = NAMED + tuple(grown_plans(counts=(2, 3, 4, 5), seeds=range(3)) + mixed_plans((4, 5), range(3)))
TWELVE = tuple(grown_plans(counts=(11, 12), seeds=range(2)) + mixed_plans((9, 12), range(3))) + (pile(12),)
TOLD = ((1, 2), (1, 3), (1, 4), (1, 1), (1, 6))


def tables_of(many, seed):
    """Tables of several kinds: nought alone, ones, some noughts, long quotients."""
    source = random.Random(seed)
    some = ((0, 1), (0, 1), (1, 1), (1, 2), (2, 3))
    return [
        ((0, 1),) * many,
        ((1, 1),) * many,
        tuple(source.choice(some) for _ in range(many)),
        tuple(quotient_of(source, 2) for _ in range(many)),
        tuple(quotient_of(source, 300) for _ in range(many)),
    ]


def told_length(table, way):
    return sum(number(table[k]) for k in way)


def told_aheads(plan, kind, table):
    """The aheads, by trying all tuples of different pictures."""
    first = ENDS[kind][0]
    found = [None] * len(plan)
    for size in range(1, len(plan) + 1):
        for row in itertools.permutations(range(len(plan)), size):
            places = (first, *row)
            if all(told_tied(plan, one, other) for one, other in zip(places, places[1:])):
                ahead = told_length(table, row[:-1])
                last = row[-1]
                found[last] = ahead if found[last] is None else min(found[last], ahead)
    return found


class Lengths(HungTest):
    def test_sums(self):
        self.answers((11, 12), length_of, TOLD, (0, 4, 2))
        self.answers((1, 2), length_of, TOLD, (0,))
        self.answers((9, 4), length_of, TOLD, (4, 3, 2, 1, 0))
        self.answers((0, 1), length_of, ((0, 1), (5, 1)), (0,))
        source = random.Random(1)
        for many in (1, 5, 40):
            for table in tables_of(many, many):
                way = tuple(source.sample(range(many), source.randint(1, many)))
                self.answers(pair(told_length(table, way)), length_of, table, way)

    def test_any_numbers(self):
        # No plan is asked for: any different indices will do.
        self.answers((5, 6), length_of, ((1, 2), (0, 1), (1, 3)), (2, 0))

    def test_wrong(self):
        tables = tuple(thing for thing in not_rows(5) if type(thing) is not tuple or thing == (1, 1))
        parts = (None, 1, (2, 4), (1, 0), (-1, 1), (1, -1), (True, 1), [1, 1], (1, 1, 1))
        tables += tuple(TOLD[:4] + (part,) for part in parts)
        ways = (
            None, True, 0, "", "0", (), [], [0, 1], (True,), (0, False), (0, 0), (1, 2, 1), (5,), (-1,), (W,), (0, None),
            (0, "1"), ((0,),), (0, [1]), (0, 10 ** 30),
        )
        self.refuses(length_of, {"table": TOLD, "way": (0, 1)}, {"table": tables, "way": ways})
        self.not_usable("way", length_of, (), (0,))
        self.not_usable("way", length_of, table=(), way=())


class Shortest(HungTest):
    def is_shortest(self, plan, kind, table, least):
        got = shortest_way(plan, kind, table)
        self.assert_exactly(got[0], pair(least))
        self.assertIs(type(got), tuple)
        self.assertEqual(len(got), 2)
        self.assertTrue(told_way(plan, kind, got[1]))
        self.assertEqual(len(set(got[1])), len(got[1]))
        self.assert_exactly(got[1], tuple(int(k) for k in got[1]))
        self.assertEqual(told_length(table, got[1]), least)
        self.answers(got, shortest_way, plan, kind, table)

    def test_small(self):
        for plan in SMALL:
            for kind in KINDS:
                ways = list(all_ways(plan, kind))
                for table in tables_of(len(plan), len(plan)):
                    self.is_shortest(plan, kind, table, min(told_length(table, way) for way in ways))

    def test_twelve(self):
        for plan in TWELVE:
            for kind in KINDS:
                for table in tables_of(len(plan), 7):
                    least = min(told_length(table, way) for way in straight_ways(plan, kind))
                    self.is_shortest(plan, kind, table, least)

    def test_edges(self):
        for kind in KINDS:
            self.answers(((3, 7), (0,)), shortest_way, ONE, kind, ((3, 7),))
            self.answers(((0, 1), (0,)), shortest_way, ONE, kind, ((0, 1),))
        self.answers(((5, 6), (0, 1)), shortest_way, FIVE, "level", TOLD)
        self.answers(((2, 1), (0, 1)), shortest_way, TWO, "level", ((1, 1), (1, 1)))
        self.assert_exactly(shortest_way(TUCKED, "level", ((1, 1), (0, 1)))[0], (1, 1))

    def test_wrong(self):
        good = {"plan": FIVE, "kind": "level", "table": TOLD}
        wrong = {"plan": NOT_PLANS, "kind": NOT_KINDS, "table": not_tables(5)}
        for call in (shortest_way, aheads):
            self.refuses(call, good, wrong)


class Aheads(HungTest):
    def test_small(self):
        for plan in SMALL:
            for kind in KINDS:
                for table in tables_of(len(plan), 3):
                    self.answers(pairs(told_aheads(plan, kind, table)), aheads, plan, kind, table)

    def test_twelve(self):
        for plan in TWELVE:
            for kind in KINDS:
                first, last = ENDS[kind]
                for table in tables_of(len(plan), 5):
                    got = aheads(plan, kind, table)
                    self.answers(got, aheads, plan, kind, table)
                    numbers = [number(part) for part in got]
                    ends = [numbers[k] + number(table[k]) for k, circle in enumerate(plan) if last in circle]
                    self.assertEqual(pair(min(ends)), shortest_way(plan, kind, table)[0])
                    for v, circle in enumerate(plan):
                        if first in circle:
                            self.assert_exactly(got[v], (0, 1))
                        else:
                            ahead = min(numbers[u] + number(table[u]) for u in circle if u >= 0)
                            self.assertEqual(numbers[v], ahead)

    def test_edges(self):
        self.answers(((0, 1),), aheads, ONE, "upright", ((5, 1),))
        self.answers(((0, 1), (1, 3)), aheads, TWO, "level", ((1, 3), (7, 1)))
        self.answers(((0, 1), (0, 1)), aheads, TWO, "upright", ((1, 3), (7, 1)))
        self.answers(((0, 1), (1, 2), (2, 3), (0, 1), (1, 2)), aheads, FIVE, "level", TOLD)
        # The approach to a picture may go by one that is tied to the first side.
        self.assertEqual(aheads(pile(3), "upright", ((1, 2), (1, 3), (1, 1))), ((0, 1), (1, 2), (5, 6)))


if __name__ == "__main__":
    unittest.main()
