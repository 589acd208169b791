"""Points 14 and 15: reckoning with quotients, and rows of them."""

import itertools
import unittest
from fractions import Fraction

from hungwall.quotients import is_less, minus, over, plus, times
from hungwall.sums import greatest_of, least_of, total, weighed
from tests.helping import HungTest
from tests.test_kinds import NOT_QUOTIENTS

HUGE = (10 ** 2999 + 1, 10 ** 2999)
SOME = ((0, 1), (1, 1), (-1, 1), (1, 2), (-1, 2), (2, 3), (-7, 6), (5, 6), (12, 1), HUGE)
NOT_ROWS = (None, True, 0, "", [], [(1, 2)], (1, 2), ((2, 4),), ((1, 2), None), ((True, 1),), ((1, 2), [1, 2]))


def fraction(pair):
    """The number for which a quotient stands."""
    return Fraction(*pair)


def pair(number):
    """The quotient of a number."""
    return (Fraction(number).numerator, Fraction(number).denominator)


class Quotients(HungTest):
    def test_two(self):
        for one, other in itertools.product(SOME, repeat=2):
            a, b = fraction(one), fraction(other)
            self.answers(pair(a + b), plus, one, other)
            self.answers(pair(a - b), minus, one, other)
            self.answers(pair(a * b), times, one, other)
            self.answers(a < b, is_less, one, other)
            if b:
                self.answers(pair(a / b), over, one, other)

    def test_three_thousand_figures(self):
        top, bottom = HUGE
        self.answers((bottom, top), over, (1, 1), HUGE)
        self.answers((top * top, bottom * bottom), times, HUGE, HUGE)
        self.answers((0, 1), minus, HUGE, HUGE)
        self.answers((1, 1), over, HUGE, HUGE)

    def test_wrong(self):
        wrong = {"one": NOT_QUOTIENTS, "other": NOT_QUOTIENTS}
        for call in (plus, minus, times, over, is_less):
            self.refuses(call, {"one": (1, 2), "other": (-1, 3)}, wrong)

    def test_over_nought(self):
        self.refuses(over, {"one": (0, 1), "other": (1, 1)}, {"one": ((0, 2),), "other": ((0, 1),)})


class Sums(HungTest):
    def test_rows(self):
        for size in range(5):
            for start in range(len(SOME)):
                row = (SOME + SOME)[start:start + size]
                others = row[::-1]
                numbers = [fraction(part) for part in row]
                self.answers(pair(sum(numbers)), total, row)
                products = [fraction(a) * fraction(b) for a, b in zip(row, others)]
                self.answers(pair(sum(products)), weighed, row, others)
                if row:
                    self.answers(pair(min(numbers)), least_of, row)
                    self.answers(pair(max(numbers)), greatest_of, row)

    def test_empty(self):
        self.answers((0, 1), total, ())
        self.answers((0, 1), weighed, (), ())
        self.not_usable("row", least_of, ())
        self.not_usable("row", greatest_of, row=())

    def test_index_counts(self):
        self.answers((1, 3), weighed, ((1, 1), (0, 1)), ((1, 3), (5, 1)))

    def test_wrong(self):
        for call in (total, least_of, greatest_of):
            self.refuses(call, {"row": ((1, 2),)}, {"row": NOT_ROWS})
        lengths = ((), ((1, 2),) * 2)
        wrong = {"row": NOT_ROWS, "others": NOT_ROWS + lengths}
        self.refuses(weighed, {"row": ((1, 2),), "others": ((1, 3),)}, wrong)


if __name__ == "__main__":
    unittest.main()
