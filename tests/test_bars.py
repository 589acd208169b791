"""Points 43 and 44: tables and streams, and what the height is at most and at least by them."""

import itertools
import random
import unittest
from fractions import Fraction

from hungwall.leastwidths import height_of, heights_of, widths_of
from hungwall.straightways import all_ways, straight_ways
from hungwall.streams import is_stream, stream_amount, stream_bar, stream_loads
from hungwall.tables import table_bar, table_weight
from tests.helping import (
    FIVE, FOUR, NAMED, NOT_PLANS, NOT_POSITIVE, ONE, TUCKED, TWO, HungTest, grown_plans, kinds_of_shapes, mixed_plans,
    not_shapes, not_tables, pile, quotient_of,
)
from tests.judge import number, pair
from tests.test_lengths import tables_of, told_length

SMALL = NAMED + tuple(grown_plans(counts=(2, 3, 4, 5), seeds=range(3)) + mixed_plans((4, 5), range(3)))
TWELVE = tuple(grown_plans(counts=(11, 12), seeds=range(2)) + mixed_plans((9, 12), range(3))) + (pile(12),)
HALVES = (((0, 1), (1, 2)), ((3, 2), (1, 2)))
# What is no stream, of whatever plan.
NOT_STREAMS = (
    None, True, 0, "", (), [], list(HALVES), (None,), ((0, 1),), ((),), (((0, 1),),), (((0, 1), (1, 2), 0),),
    ([(0, 1), (1, 2)],), (((), (1, 2)),), (([0, 1], (1, 2)),), (((0, True), (1, 2)),), (((False, 1), (1, 2)),),
    (((0, 0), (1, 2)),), (((0, -1), (1, 2)),), (((-4, 0, 1), (1, 2)),), (("01", (1, 2)),), ((None, (1, 2)),),
    ((0, (1, 2)),), HALVES + (None,), HALVES + (HALVES,), HALVES + ((),), ((1, 2), (0, 1)), ((((0,), 1), (1, 2)),),
) + tuple((HALVES[0], ((3, 2), weight)) for weight in NOT_POSITIVE)


def streams_on(ways, seed):
    """Streams on some of these ways, with weights of several kinds."""
    source = random.Random(seed)
    found = [tuple((way, (1, 1)) for way in ways[:60])]
    for figures in (1, 20, 300):
        some = source.sample(ways, source.randint(1, min(len(ways), 6)))
        found.append(tuple((way, quotient_of(source, figures)) for way in some))
    return found


def told_loads(many, stream):
    return [sum(number(weight) for way, weight in stream if k in way) for k in range(many)]


class Tables(HungTest):
    def test_weight(self):
        self.answers((5, 2), table_weight, ((1, 1), (1, 1)), ((1, 2), (3, 2)))
        self.answers((0, 1), table_weight, ((7, 3),), ((0, 1),))
        self.answers((3, 4), table_weight, ((3, 1),), ((1, 2),))
        for many in (1, 2, 12, 40):
            for shapes, table in itertools.product(kinds_of_shapes(many, many), tables_of(many, many)):
                want = sum(number(shape) * number(part) ** 2 for shape, part in zip(shapes, table))
                self.answers(pair(want), table_weight, shapes, table)

    def test_bar(self):
        for plan in SMALL + TWELVE:
            ways = straight_ways(plan, "level")
            for shapes, table in itertools.product(kinds_of_shapes(len(plan), 1), tables_of(len(plan), 2)):
                least = min(told_length(table, way) for way in ways)
                if least == 0:
                    self.not_usable("table", table_bar, plan, shapes, table)
                    self.not_usable("table", table_bar, plan=plan, shapes=shapes, table=table)
                else:
                    want = number(table_weight(shapes, table)) / least / least
                    self.answers(pair(want), table_bar, plan, shapes, table)

    def test_height_is_at_most_the_bar(self):
        for plan in SMALL + TWELVE:
            for shapes in kinds_of_shapes(len(plan), 3):
                widths, height = widths_of(plan, shapes), height_of(plan, shapes)
                for factor in (Fraction(1), Fraction(1, 7), Fraction(13, 3)):
                    table = tuple(pair(factor * number(width)) for width in widths)
                    self.answers(height, table_bar, plan, shapes, table)
                for table in tables_of(len(plan), 4)[1:4]:
                    try:
                        bar = number(table_bar(plan, shapes, table))
                    except ValueError:
                        continue
                    self.assertGreaterEqual(bar, number(height))
                    # It is the height exactly if the table is a multiple of the widths.
                    times = {number(part) / number(width) for part, width in zip(table, widths) if width[0]}
                    noughts = all(part[0] == 0 for part, width in zip(table, widths) if width[0] == 0)
                    self.assertEqual(bar == number(height), len(times) == 1 and noughts)

    def test_edges(self):
        self.answers((1, 2), table_bar, TWO, ((1, 1), (1, 1)), ((1, 1), (1, 1)))
        self.answers((1, 1), table_bar, TWO, ((1, 1), (1, 1)), ((1, 1), (0, 1)))
        self.answers((3, 1), table_bar, ONE, ((3, 1),), ((5, 7),))
        self.not_usable("table", table_bar, ONE, ((3, 1),), ((0, 1),))
        # The level way 3, 2 has length 0.
        self.not_usable("table", table_bar, FOUR, ((1, 1),) * 4, ((1, 1), (0, 1), (0, 1), (0, 1)))
        self.answers((2, 1), table_bar, TUCKED, ((2, 1), (9, 1)), ((1, 1), (0, 1)))

    def test_wrong(self):
        ones = ((1, 1),) * 5
        wrong = {"plan": NOT_PLANS, "shapes": not_shapes(5), "table": not_tables(5) + (((0, 1),) * 5,)}
        self.refuses(table_bar, {"plan": FIVE, "shapes": ones, "table": ones}, wrong)
        shapes = tuple(thing for thing in not_shapes(5) if thing not in (((1, 1),), ones + ((1, 1),), ones[1:]))
        wrong = {"shapes": shapes, "table": not_tables(5)}
        self.refuses(table_weight, {"shapes": ones, "table": ones}, wrong)
        self.not_usable("shapes", table_weight, (), ())


class Streams(HungTest):
    def test_is_stream(self):
        for plan in SMALL:
            ways = list(all_ways(plan, "level"))
            for stream in streams_on(ways, 1):
                self.answers(True, is_stream, plan, stream)
                self.answers(False, is_stream, plan, stream + stream[:1])
                self.answers(False, is_stream, plan, stream + ((stream[0][0], (5, 3)),))
                self.answers(False, is_stream, plan, list(stream))
            for way in all_ways(plan, "upright"):
                self.answers(way in ways, is_stream, plan, ((way, (1, 1)),))

    def test_is_no_stream(self):
        self.answers(True, is_stream, FOUR, HALVES)
        for thing in NOT_STREAMS:
            self.answers(False, is_stream, FOUR, thing)
        for way in ((0,), (0, 3), (1, 0), (0, 4), (3, 1)):
            self.answers(False, is_stream, FOUR, ((way, (1, 2)),))
            self.answers(False, is_stream, FOUR, HALVES + ((way, (1, 2)),))

    def test_forty(self):
        plan = pile(40)
        stream = tuple(((k,), (k + 1, 1)) for k in range(40)) + (((0, 1), (1, 7)),)
        self.answers(True, is_stream, plan, stream)
        self.answers(False, is_stream, plan, stream + (((39,), (1, 1)),))
        self.answers(False, is_stream, plan, stream + (((39, 0), (1, 1)),))
        loads = [k + 1 + (Fraction(1, 7) if k < 2 else 0) for k in range(40)]
        self.answers(tuple(pair(load) for load in loads), stream_loads, 40, stream)

    def test_amount_and_loads(self):
        for plan in SMALL + TWELVE:
            many = len(plan)
            for stream in streams_on(list(straight_ways(plan, "level")), 2):
                # The same way may come several times.
                for told in (stream, stream + stream, stream[:1] * 60):
                    self.answers(pair(sum(number(weight) for _, weight in told)), stream_amount, told)
                    loads = told_loads(many + 2, told)
                    self.answers(tuple(pair(load) for load in loads), stream_loads, many + 2, told)
                    self.answers(tuple(pair(load) for load in loads[:many]), stream_loads, many, told)

    def test_no_plan_is_asked_for(self):
        loose = (((5, 0), (1, 2)), ((0,), (1, 3)), ((5, 0), (1, 6)))
        self.answers((1, 1), stream_amount, loose)
        self.answers(((1, 1), (0, 1), (0, 1), (0, 1), (0, 1), (2, 3)), stream_loads, 6, loose)
        self.not_usable("stream", stream_loads, 5, loose)
        self.not_usable("stream", stream_loads, many=5, stream=loose)
        self.not_usable("stream", stream_loads, 0, loose)
        self.not_usable("stream", stream_loads, 0, (((0,), (1, 1)),))
        self.answers(((1, 1),), stream_loads, 1, (((0,), (1, 1)),))

    def test_bar(self):
        for plan in SMALL + TWELVE:
            streams = streams_on(list(straight_ways(plan, "level")), 3)
            for shapes, stream in itertools.product(kinds_of_shapes(len(plan), 4), streams):
                amount = sum(number(weight) for _, weight in stream)
                squares = [load * load / number(shape) for load, shape in zip(told_loads(len(plan), stream), shapes)]
                self.answers(pair(amount * amount / sum(squares)), stream_bar, plan, shapes, stream)
                self.is_at_most_the_height(plan, shapes, stream)

    def is_at_most_the_height(self, plan, shapes, stream):
        height, bar = number(height_of(plan, shapes)), number(stream_bar(plan, shapes, stream))
        self.assertLessEqual(bar, height)
        amount, loads = number(stream_amount(stream)), told_loads(len(plan), stream)
        heights = heights_of(plan, shapes)
        same = all(load / amount == number(part) / height for load, part in zip(loads, heights))
        self.assertEqual(bar == height, same)

    def test_edges(self):
        ones = ((1, 1),) * 4
        self.answers((1, 1), stream_bar, FOUR, ones, HALVES)
        self.answers((1, 2), stream_bar, FOUR, ones, (((0, 2), (1, 3)),))
        self.answers((3, 1), stream_bar, ONE, ((3, 1),), (((0,), (1, 9)),))
        # A stream need not go by straight ways.
        self.answers((1, 3), stream_bar, FOUR, ones, (((0, 1, 2), (1, 3)),))

    def test_wrong(self):
        ones = ((1, 1),) * 4
        streams = NOT_STREAMS + (HALVES + HALVES[:1], (((0, 3), (1, 2)),))
        wrong = {"plan": NOT_PLANS, "shapes": not_shapes(4), "stream": streams}
        self.refuses(stream_bar, {"plan": FOUR, "shapes": ones, "stream": HALVES}, wrong)
        self.refuses(is_stream, {"plan": FOUR, "thing": HALVES}, {"plan": NOT_PLANS})
        self.refuses(stream_amount, {"stream": HALVES}, {"stream": NOT_STREAMS})
        wrong = {"many": (None, True, "4", -1, (4,), [], (4, 1)), "stream": NOT_STREAMS + ((((0, 4), (1, 2)),),)}
        self.refuses(stream_loads, {"many": 4, "stream": HALVES}, wrong)


if __name__ == "__main__":
    unittest.main()
