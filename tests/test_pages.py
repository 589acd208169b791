"""Points 76, 77 and 81: shapes within stretches for a page, page papers and their checker, and the class Page."""

import itertools
import random
import unittest
from fractions import Fraction

from hungwall.errors import InvalidPaper, Unfit
from hungwall.leastwidths import height_of, widths_of
from hungwall.hanging import hung
from hungwall.pagechecker import lets_page
from hungwall.pageclasses import Page
from hungwall.pagepapers import page_paper
from hungwall.pages import fitted
from hungwall.points import points_in
from hungwall.ranges import raised_height, range_of
from hungwall.reshaping import reshaped
from hungwall.slices import level_slices
from hungwall.straightways import straight_ways
from hungwall.streams import stream_bar
from hungwall.stretches import highs_of, lies_in, lows_of
from hungwall.tables import table_bar
from tests.helping import (
    FIVE, FOUR, NAMED, NOT_PLANS, NOT_POSITIVE, ONE, TUCKED, TWO, HungTest, grown_plans, mixed_plans, not_shapes,
    not_tables, pile, spun_plans,
)
from tests.judge import number, pair
from tests.test_bars import NOT_STREAMS, streams_on
from tests.test_lengths import tables_of
from tests.test_stretches import ENDS, LONG, NEVER, between, stretches_of

PLANS = NAMED + tuple(
    grown_plans(counts=(2, 3, 5, 9, 12), seeds=range(2)) + mixed_plans((6, 9, 12), range(2)) + spun_plans((6, 8), range(2))
) + (pile(4),)
LOOSE = (((1, 2), (2, 1)), ((1, 1), (1, 1)))
WRONG = {"plan": NOT_PLANS, "stretches": NEVER + ((), (ENDS,) * 4, (ENDS,) * 6), "height": NOT_POSITIVE}


def same(many, top=1, bottom=1):
    return ((top, bottom),) * many


def heights_for(plan, stretches, seed):
    """Heights of all kinds: at both ends, at raised heights, between them, just beyond the ends, and far off."""
    source = random.Random(seed)
    low, high = range_of(plan, stretches)
    count = source.randrange(len(plan) + 1)
    found = [low, high, raised_height(plan, stretches, count), between(low, high, (source.randrange(1, 1000), 1000))]
    found += [pair(number(low) * Fraction(LONG - 1, LONG)), pair(number(high) * Fraction(LONG, LONG - 1))]
    return found + [pair(number(low) / 1000), pair(number(high) * 1000), between(low, high, (1, 10 ** 9))]


class Fitted(HungTest):
    def is_fit(self, plan, stretches, height):
        """fitted returns what the document says: high ends, one shape between, low ends."""
        got = fitted(plan, stretches, height)
        self.answers(got, fitted, plan, stretches, height)
        lows, highs = lows_of(stretches), highs_of(stretches)
        self.assertTrue(lies_in(stretches, got))
        self.assertEqual(height_of(plan, got), height)
        if height_of(plan, lows) == height:
            self.assertEqual(got, lows)
            return
        counts = range(1, len(plan) + 1)
        j = [count for count in counts if number(raised_height(plan, stretches, count)) >= number(height)][0] - 1
        self.assertEqual((got[:j], got[j + 1:]), (highs[:j], lows[j + 1:]))

    def test_all(self):
        for at, plan in enumerate(PLANS):
            for stretches in stretches_of(len(plan), at)[at % 2::2]:
                low, high = (number(end) for end in range_of(plan, stretches))
                for height in heights_for(plan, stretches, at):
                    if low <= number(height) <= high:
                        self.is_fit(plan, stretches, height)
                    else:
                        self.is_barred(plan, stretches, height, "low" if number(height) < low else "high")

    def is_barred(self, plan, stretches, height, word):
        for _ in "12":
            with self.assertRaises(Unfit) as caught:
                fitted(plan, stretches, height)
            self.assertIs(type(caught.exception), Unfit)
            self.assertEqual(list(vars(caught.exception)), ["barring"])
            barring = caught.exception.barring
            self.assert_exactly(lets_page(plan, stretches, height, barring), word)

    def test_edges(self):
        self.answers((ENDS[0],), fitted, ONE, (ENDS,), ENDS[0])
        self.answers((ENDS[1],), fitted, ONE, (ENDS,), ENDS[1])
        self.answers(((7, 5),), fitted, ONE, (ENDS,), (7, 5))
        # All ends are equal.
        self.answers(same(4), fitted, FOUR, (same(2),) * 4, (1, 1))
        self.is_barred(FOUR, (same(2),) * 4, (LONG - 1, LONG), "low")
        self.is_barred(FOUR, (same(2),) * 4, (LONG, LONG - 1), "high")
        # A point keeps its low end if it comes last, and has its high end ahead of a shape between.
        self.answers(((3, 2), (1, 2)), fitted, TUCKED, (ENDS, ENDS), (3, 2))
        back = ((-4, -3, 1), (-4, 0, -3, -2, -1))
        self.answers((ENDS[1], (3, 2)), fitted, back, (ENDS, ENDS), (3, 2))
        self.answers((ENDS[0], ENDS[0]), fitted, back, (ENDS, ENDS), (1, 2))
        # The middle picture is a point until the first one is changed.
        stretches = (same(2),) * 4 + (ENDS,)
        self.answers(same(4) + (ENDS[0],), fitted, FIVE, stretches, (1, 1))
        self.is_barred(FIVE, stretches, (LONG, LONG - 1), "high")
        self.assert_exactly(fitted(plan=TWO, stretches=LOOSE, height=(1, 2)), ((1, 1), (1, 1)))

    def test_wrong(self):
        self.refuses(fitted, {"plan": FIVE, "stretches": (ENDS,) * 5, "height": (1, 1)}, WRONG)


class Papers(HungTest):
    def test_shown(self):
        for at, plan in enumerate(PLANS):
            for stretches in stretches_of(len(plan), at)[at % 2::2]:
                low, high = (number(end) for end in range_of(plan, stretches))
                for height in heights_for(plan, stretches, at):
                    word = "let"
                    if not low <= number(height) <= high:
                        word = "low" if number(height) < low else "high"
                    paper = page_paper(plan, stretches, height)
                    self.assertIs(type(paper), tuple)
                    self.answers(paper, page_paper, plan, stretches, height)
                    self.assert_exactly(paper[0], word)
                    self.answers(word, lets_page, plan, stretches, height, paper)

    def test_just_one_word(self):
        for at, plan in enumerate(PLANS[::2]):
            stretches = stretches_of(len(plan), at)[2]
            lows, highs = lows_of(stretches), highs_of(stretches)
            streams = streams_on(straight_ways(plan, "level"), at)
            tables = tables_of(len(plan), at) + [widths_of(plan, highs)]
            for height in heights_for(plan, stretches, at):
                shown = page_paper(plan, stretches, height)[0]
                told = [("low", stream) for stream in streams + [level_slices(hung(plan, lows))]]
                told += [("high", table) for table in tables] + [("let", shapes) for shapes in (lows, highs)]
                for thing in told:
                    if self.outcome(plan, stretches, height, thing) == thing[0]:
                        self.assertEqual(thing[0], shown)

    def outcome(self, plan, stretches, height, thing):
        """The word that lets_page returns, or that of its error, as the document says."""
        word, told = thing
        want = word
        if word == "let" and height_of(plan, told) != height:
            want = "height"
        if word == "low" and number(stream_bar(plan, lows_of(stretches), told)) <= number(height):
            want = "bar"
        if word == "high":
            lengths = [sum(number(told[k]) for k in way) for way in straight_ways(plan, "level")]
            if min(lengths) == 0 or number(table_bar(plan, highs_of(stretches), told)) >= number(height):
                want = "bar"
        try:
            self.assertEqual(lets_page(plan, stretches, height, thing), want)
        except InvalidPaper as error:
            self.assertEqual((error.word, error.at), (want, -1))
        return want

    def test_strangers(self):
        half = ((1, 2), (1, 2))
        self.answers("high", lets_page, TWO, LOOSE, (1, 1), ("high", half))
        self.answers("high", lets_page, TWO, LOOSE, (LONG, LONG - 1), ("high", ((5, 1), (5, 1))))
        self.no_paper("bar", -1, lets_page, TWO, LOOSE, (3, 4), ("high", half))
        self.no_paper("bar", -1, lets_page, TWO, LOOSE, (1, 2), ("high", half))
        # A level way of length 0, as all are, or just one.
        self.no_paper("bar", -1, lets_page, TWO, LOOSE, (9, 1), ("high", ((0, 1), (0, 1))))
        self.no_paper("bar", -1, lets_page, FOUR, (same(2),) * 4, (9, 1), ("high", ((1, 1),) + same(3, 0)))
        stream = (((0, 1), (1, 3)),)
        self.answers("low", lets_page, TWO, LOOSE, (1, 4), ("low", stream))
        self.no_paper("bar", -1, lets_page, TWO, LOOSE, (1, 3), ("low", stream))
        self.no_paper("bar", -1, lets_page, TWO, LOOSE, (1, 2), ("low", stream))
        self.answers("let", lets_page, TWO, LOOSE, (1, 2), ("let", same(2)))
        self.no_paper("height", -1, lets_page, TWO, LOOSE, (1, 3), ("let", same(2)))
        self.no_paper("shape", 1, lets_page, TWO, LOOSE, (1, 2), ("let", ((1, 1), (LONG - 1, LONG))))
        self.no_paper("shape", 0, lets_page, TWO, LOOSE, (1, 2), ("let", ((3, 1), (3, 1))))
        self.no_paper("shape", 0, lets_page, TWO, LOOSE, (1, 3), ("let", ((1, 3), (1, 1))))
        # Not all but one need be at an end.
        self.answers("let", lets_page, FOUR, (ENDS,) * 4, (1, 1), ("let", same(4)))
        self.assert_exactly(lets_page(plan=TWO, stretches=LOOSE, height=(1, 1), thing=("high", half)), "high")

    def test_form(self):
        stretches, shapes = (ENDS,) * 5, same(5)
        stream, table = (((0, 4, 2), (1, 1)),), same(5, 1, 2)
        for thing in (
            None, True, 0, "", "let", (), ("let",), ["let", shapes], ("let", shapes, shapes), (shapes, "let"), ("Let", shapes),
            ("let ", shapes), (None, shapes), (True, shapes), (0, shapes), (("let",), shapes), ((), ()), shapes, stream,
            ("high", stream), ("low", table), ("low", shapes), ("let", stream), ("bar", table), ("hi", table),
        ):
            self.no_paper("form", -1, lets_page, FIVE, stretches, (1, 1), thing)
        for told in not_shapes(5):
            self.no_paper("form", -1, lets_page, FIVE, stretches, (1, 1), ("let", told))
        for told in not_tables(5):
            self.no_paper("form", -1, lets_page, FIVE, stretches, (1, 1), ("high", told))
        for told in NOT_STREAMS + ((((0, 2), (1, 1)),), stream + stream, (((0, 5), (1, 1)),)):
            self.no_paper("form", -1, lets_page, FIVE, stretches, (1, 1), ("low", told))

    def test_wrong(self):
        good = {"plan": FIVE, "stretches": (ENDS,) * 5, "height": (1, 1)}
        self.refuses(page_paper, good, WRONG)
        good["thing"] = ("let", same(5))
        self.refuses(lets_page, good, WRONG)
        self.not_usable("height", lets_page, FIVE, (ENDS,) * 5, (2, 2), None)


class TheClass(HungTest):
    def test_all(self):
        for at, circles in enumerate(PLANS):
            for told in stretches_of(len(circles), at)[1:4]:
                page = Page(circles=circles, told=told)
                self.assert_exactly((page.least, page.most), range_of(circles, told))
                low, high = number(page.least), number(page.most)
                for height in heights_for(circles, told, at):
                    fits = low <= number(height) <= high
                    self.answers(fits, page.fits, height)
                    self.answers(page_paper(circles, told, height), page.shown_paper, height)
                    if fits:
                        self.answers(fitted(circles, told, height), page.shapes_for, height)
                    else:
                        with self.assertRaises(Unfit) as caught:
                            page.shapes_for(height)
                        word = "low" if number(height) < low else "high"
                        self.assert_exactly(lets_page(circles, told, height, caught.exception.barring), word)
                self.assert_exactly((page.least, page.most), range_of(circles, told))

    def test_raised(self):
        # A page for which a count of pictures makes it just high enough.
        for plan in PLANS:
            stretches = stretches_of(len(plan), 9)[4]
            lows, highs = lows_of(stretches), highs_of(stretches)
            for count in range(len(plan) + 1):
                height = raised_height(plan, stretches, count)
                got = Page(plan, stretches).shapes_for(height)
                raised = highs[:count] + lows[count:]
                points = points_in(plan, raised)
                # It may come to fewer where pictures are points, whose shapes do not matter.
                self.assertTrue(all(k in points for k in range(len(plan)) if got[k] != raised[k]))

    def test_names(self):
        page = Page(TWO, LOOSE)
        self.assert_exactly((page.least, page.most), ((1, 3), (2, 3)))
        self.assert_exactly(page.fits(height=(1, 3)), True)
        self.assert_exactly(page.fits(height=(2, 3)), True)
        self.assert_exactly(page.fits(height=(LONG, 3 * LONG + 1)), False)
        self.assert_exactly(page.shapes_for(height=(1, 2)), same(2))
        self.assert_exactly(page.shown_paper(height=(1, 2)), ("let", same(2)))

    def test_wrong(self):
        wrong = {"circles": NOT_PLANS, "told": WRONG["stretches"]}
        self.refuses(Page, {"circles": FIVE, "told": (ENDS,) * 5}, wrong)
        page = Page(FIVE, (ENDS,) * 5)
        for call in (page.fits, page.shapes_for, page.shown_paper):
            self.refuses(call, {"height": (1, 1)}, {"height": NOT_POSITIVE})
        self.assert_exactly((page.least, page.most), range_of(FIVE, (ENDS,) * 5))


class Rising(HungTest):
    def test_shape_by_shape(self):
        # Along a row of raised ends the height of each page is reached by the shape of one picture.
        for plan, seed in itertools.product(PLANS[::4], range(2)):
            stretches = stretches_of(len(plan), seed)[2]
            for count in range(len(plan)):
                shapes = highs_of(stretches[:count]) + lows_of(stretches[count:])
                middle = reshaped(shapes, count, between(*stretches[count], (1, 2)))
                height = height_of(plan, middle)
                got = fitted(plan, stretches, height)
                if height not in (raised_height(plan, stretches, count), raised_height(plan, stretches, count + 1)):
                    self.assertEqual(got, middle)


if __name__ == "__main__":
    unittest.main()
