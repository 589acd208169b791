"""Points 53 and 54: slices of walls, and the papers of widths and slices."""

import unittest
from fractions import Fraction

from hungwall.errors import InvalidPaper
from hungwall.hanging import hung
from hungwall.leastwidths import heights_of, widths_of
from hungwall.slicechecker import lets_slices
from hungwall.slicepapers import slice_paper
from hungwall.slices import level_slices, upright_slices
from hungwall.streams import stream_amount, stream_bar, stream_loads
from hungwall.straightways import all_ways, straight_ways
from hungwall.wallturns import turned_boxes
from tests.fillings import FILLINGS, HALF, NOT_WALLS, ONE_BOX, POINT_BOX, POINTED
from tests.helping import (
    FIVE, FOUR, NAMED, NOT_PLANS, NOT_POSITIVE, ONE, TUCKED, TWO, HungTest, grown_plans, kinds_of_shapes, mixed_plans,
    not_shapes, not_tables, pile,
)
from tests.judge import is_sized, number, pair, spans
from tests.test_bars import NOT_STREAMS, streams_on
from tests.test_lengths import tables_of, told_length

WALLS = FILLINGS + POINTED + [ONE_BOX, HALF, POINT_BOX]
SMALL = NAMED + tuple(grown_plans(counts=(2, 3, 4, 5), seeds=range(3)) + mixed_plans((4, 5, 6), range(3)))
PLANS = SMALL + tuple(grown_plans(counts=(9, 12), seeds=range(3)) + mixed_plans((8, 9, 12), range(3))) + (pile(12),)
ONES = ((1, 1),) * 5


def told_slices(wall, upright):
    """The slices, by the line half-way between each two ends that follow one another."""
    sized = [k for k, box in enumerate(wall[1]) if is_sized(box)]
    along = {k: spans(wall[1][k])[0 if upright else 1] for k in sized}
    across = {k: spans(wall[1][k])[1 if upright else 0] for k in sized}
    ends = sorted({end for span in along.values() for end in span})
    found = []
    for low, high in zip(ends, ends[1:]):
        met = [k for k in sized if along[k][0] < (low + high) / 2 < along[k][1]]
        # From the left; from above, where the line is upright.
        way = tuple(sorted(met, key=lambda k: -across[k][0] if upright else across[k][0]))
        found.append((way, pair(high - low)))
    return tuple(found)


class Slices(HungTest):
    def test_all(self):
        for wall in WALLS:
            self.answers(told_slices(wall, False), level_slices, wall)
            self.answers(told_slices(wall, True), upright_slices, wall)

    def test_sums(self):
        for wall in WALLS:
            widths = [number(box[2]) for box in wall[1]]
            heights = [number(box[3]) for box in wall[1]]
            for slices, sizes, across, whole, along in (
                (level_slices(wall), widths, Fraction(1), number(wall[0]), heights),
                (upright_slices(wall), heights, number(wall[0]), Fraction(1), widths),
            ):
                self.assertTrue(all(sum(sizes[k] for k in way) == across for way, _ in slices))
                self.assertEqual(sum(number(thick) for _, thick in slices), whole)
                for k, size in enumerate(along):
                    self.assertEqual(sum(number(thick) for way, thick in slices if k in way), size)
                self.assertEqual(len({way for way, _ in slices}), len(slices))
                self.assertLessEqual(len(slices), sum(width > 0 for width in widths))

    def test_turned(self):
        for wall in WALLS:
            height = number(wall[0])
            slices = tuple((way, pair(number(thick) / height)) for way, thick in level_slices(wall))
            self.assertEqual(upright_slices(turned_boxes(wall)), slices)

    def test_of_plans(self):
        for plan in PLANS:
            for shapes in kinds_of_shapes(len(plan), 1):
                wall = hung(plan, shapes)
                for slices, kind in ((level_slices(wall), "level"), (upright_slices(wall), "upright")):
                    self.assertLessEqual({way for way, _ in slices}, set(straight_ways(plan, kind)))

    def test_any_straight_way_is_met(self):
        # By great shapes on a level way, or small ones on an upright way, the line in the middle meets it (G4).
        for plan in SMALL:
            for kind, call in (("level", level_slices), ("upright", upright_slices)):
                for way in straight_ways(plan, kind):
                    great = 16 * len(plan) * len(way) ** 2
                    shape = (great, 1) if kind == "level" else (1, great)
                    wall = hung(plan, tuple(shape if k in way else (1, 1) for k in range(len(plan))))
                    middle = number(wall[0]) / 2 if kind == "level" else Fraction(1, 2)
                    met, low = [], Fraction(0)
                    for found, thick in call(wall):
                        if low < middle < low + number(thick):
                            met.append(found)
                        low += number(thick)
                    self.assertEqual(met, [way])

    def test_edges(self):
        self.answers((((0,), (1, 1)),), level_slices, ONE_BOX)
        self.answers((((0,), (1, 1)),), upright_slices, ONE_BOX)
        self.answers((((1,), (1, 1)),), level_slices, POINT_BOX)
        self.answers((((0, 1), (1, 1)),), level_slices, HALF)
        self.answers((((0,), (1, 2)), ((1,), (1, 2))), upright_slices, HALF)
        # A point between two heights makes no slice of its own.
        wall = ((1, 1), HALF[1] + (((1, 2), (1, 3), (0, 1), (0, 1)), ((1, 4), (1, 1), (0, 1), (0, 1))))
        self.answers((((0, 1), (1, 1)),), level_slices, wall)
        self.answers((((0,), (1, 2)), ((1,), (1, 2))), upright_slices, wall)

    def test_wrong(self):
        for call in (level_slices, upright_slices):
            self.refuses(call, {"wall": HALF}, {"wall": NOT_WALLS})


class Papers(HungTest):
    def test_papers(self):
        for plan in PLANS:
            for shapes in kinds_of_shapes(len(plan), 2):
                wall = hung(plan, shapes)
                paper = (widths_of(plan, shapes), level_slices(wall))
                self.answers(paper, slice_paper, plan, shapes)
                self.answers(wall[0], lets_slices, plan, shapes, paper)
                self.assert_exactly(lets_slices(plan=plan, shapes=shapes, thing=paper), wall[0])
                # The stream shows that the height is not less.
                self.assertEqual(stream_bar(plan, shapes, paper[1]), wall[0])
                self.assertEqual(stream_amount(paper[1]), wall[0])
                self.assertEqual(stream_loads(len(plan), paper[1]), heights_of(plan, shapes))

    def told_fault(self, plan, shapes, table, stream):
        """The word and place of the first entry behind the form that applies, or None."""
        for k, (way, _) in enumerate(stream):
            if told_length(table, way) != 1:
                return "length", k
        for i, shape in enumerate(shapes):
            load = sum(number(weight) for way, weight in stream if i in way)
            if load != number(shape) * number(table[i]):
                return "load", i
        if min(told_length(table, way) for way in all_ways(plan, "level")) < 1:
            return "short", -1
        return None

    def judges(self, plan, shapes, table, stream):
        """The checker says what the document's list does."""
        fault = self.told_fault(plan, shapes, table, stream)
        try:
            got = lets_slices(plan, shapes, (table, stream))
        except InvalidPaper as error:
            self.assert_exactly((error.word, error.at), fault)
        else:
            self.assertIsNone(fault)
            self.assert_exactly(got, stream_amount(stream))
            # What is let tells the wall.
            self.assertEqual(table, widths_of(plan, shapes))
            self.assertEqual(got, hung(plan, shapes)[0])
            self.assertLessEqual({way for way, _ in stream}, set(straight_ways(plan, "level")))
        return fault and fault[0]

    def test_other_papers(self):
        seen = set()
        for plan in SMALL:
            many = len(plan)
            for shapes in kinds_of_shapes(many, 3)[:3]:
                table, stream = slice_paper(plan, shapes)
                streams = streams_on(list(straight_ways(plan, "level")), 1) + [stream, stream[::-1], stream[1:] or stream]
                streams += [stream[:1], stream + tuple((way, (1, 1)) for way in straight_ways(plan, "level")
                                                       if way not in [one for one, _ in stream])]
                tables = tables_of(many, 1) + [table, table[::-1], table[:-1] + ((0, 1),), ((1, 1),) + table[1:]]
                for told in tables:
                    for ways in streams:
                        seen.add(self.judges(plan, shapes, told, ways))
                shifted = tuple((way, pair(number(weight) * 2)) for way, weight in stream)
                seen.add(self.judges(plan, shapes, table, shifted))
        self.assertLessEqual({None, "length", "load"}, seen)

    def test_other_streams(self):
        # The ways need not be the wall's slices: two on the left, two on the right of a high one.
        plan = ((-4, -3, 2, 1), (-4, 0, 2, -1), (-3, 3, 4, -1, 1, 0), (-3, -2, 4, 2), (-2, -1, 2, 3))
        shapes = ((1, 1), (1, 1), (2, 1), (1, 1), (1, 1))
        third = (1, 3)
        self.answers((((1, 2, 4), third), ((0, 2, 3), third)), level_slices, hung(plan, shapes))
        crosswise = (((1, 2, 3), third), ((0, 2, 4), third))
        self.answers((2, 3), lets_slices, plan, shapes, ((third,) * 5, crosswise))
        sixths = tuple((way, (1, 6)) for way in ((0, 2, 3), (0, 2, 4), (1, 2, 3), (1, 2, 4)))
        self.answers((2, 3), lets_slices, plan, shapes, ((third,) * 5, sixths))
        self.no_paper("load", 0, lets_slices, plan, shapes, ((third,) * 5, sixths[1:]))

    def test_short(self):
        ones = ((1, 1),) * 4
        table = ((1, 2), (1, 2), (0, 1), (0, 1))
        self.no_paper("short", -1, lets_slices, FOUR, ones, (table, (((0, 1), (1, 2)),)))
        self.no_paper("load", 2, lets_slices, FOUR, ones, (((1, 2),) * 4, (((0, 1), (1, 2)),)))
        self.no_paper("length", 0, lets_slices, FOUR, ones, (((1, 3),) * 4, (((0, 1), (1, 2)),)))
        self.no_paper("length", 1, lets_slices, FOUR, ones, (table, (((0, 1), (1, 2)), ((3, 2), (1, 2)))))

    def test_form(self):
        table, stream = slice_paper(FIVE, ONES)
        things = [None, True, 0, "", (), [], (table,), [table, stream], (stream, table), (table, stream, None)]
        things += [(thing, stream) for thing in not_tables(5)] + [(table, thing) for thing in NOT_STREAMS]
        things += [(table, stream + stream[:1]), (table, stream[:1] * 2), (table, (((0, 2), (1, 2)),))]
        things += [(table, (((1, 4, 3), (1, 2)),)), (table, (((0, 5), (1, 2)),)), (table, list(stream))]
        things += [(table, ((stream[0][0], weight),)) for weight in NOT_POSITIVE]
        for thing in things:
            self.no_paper("form", -1, lets_slices, FIVE, ONES, thing)
            self.no_paper("form", -1, lets_slices, plan=FIVE, shapes=ONES, thing=thing)

    def test_edges(self):
        self.answers((((1, 1),), (((0,), (7, 3)),)), slice_paper, ONE, ((7, 3),))
        self.answers((7, 3), lets_slices, ONE, ((7, 3),), (((1, 1),), (((0,), (7, 3)),)))
        self.answers((((1, 1), (0, 1)), (((0,), (2, 1)),)), slice_paper, TUCKED, ((2, 1), (5, 1)))
        # A point has no load; the shape that it has does not matter.
        self.no_paper("load", 1, lets_slices, TUCKED, ((2, 1), (5, 1)), (((1, 1), (1, 1)), (((0,), (2, 1)),)))
        self.answers((((1, 2), (1, 2)), (((0, 1), (1, 2)),)), slice_paper, TWO, ((1, 1),) * 2)

    def test_wrong(self):
        paper = slice_paper(FIVE, ONES)
        wrong = {"plan": NOT_PLANS, "shapes": not_shapes(5)}
        self.refuses(slice_paper, {"plan": FIVE, "shapes": ONES}, wrong)
        self.refuses(lets_slices, {"plan": FIVE, "shapes": ONES, "thing": paper}, wrong)


if __name__ == "__main__":
    unittest.main()
