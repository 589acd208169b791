"""Point 13: kinds of values."""

import unittest

from hungwall.kinds import is_integer, is_positive, is_quotient, is_shapes, is_table
from tests.helping import NOT_INTEGERS, HungTest

HUGE = 10 ** 3000 - 1
NOT_NUMBERS = NOT_INTEGERS + (-1, -10 ** 50)
NOT_QUOTIENTS = (
    None, True, 0, 1, "", "1/2", (), (1,), (1, 2, 3), [1, 2], (1, 0), (1, -2), (2, 4), (0, 2),
    (-2, 2), (True, 1), (1, True), (False, 1), ("1", "2"), (1, None), ((1, 2), 1), (1, [2]),
    (HUGE, HUGE),
)
POSITIVES = ((1, 1), (1, 2), (2, 3), (7, 1), (HUGE, HUGE - 1))
NAUGHT_OR_LESS = ((0, 1), (-1, 1), (-3, 2), (-HUGE, 2))


class Kinds(HungTest):
    def test_integers(self):
        for thing in (0, 1, -1, -4, HUGE, -HUGE):
            self.answers(True, is_integer, thing)
        for thing in NOT_INTEGERS + ((1, 2), "x" * 9):
            self.answers(False, is_integer, thing)

    def test_quotients(self):
        for thing in POSITIVES + NAUGHT_OR_LESS:
            self.answers(True, is_quotient, thing)
        for thing in NOT_QUOTIENTS:
            self.answers(False, is_quotient, thing)

    def test_positives(self):
        for thing in POSITIVES:
            self.answers(True, is_positive, thing)
        for thing in NOT_QUOTIENTS + NAUGHT_OR_LESS:
            self.answers(False, is_positive, thing)

    def test_shapes(self):
        for many in range(len(POSITIVES) + 1):
            self.answers(True, is_shapes, many, POSITIVES[:many])
            self.answers(False, is_shapes, many + 1, POSITIVES[:many])
            self.answers(False, is_shapes, many, list(POSITIVES[:many]))
            self.answers(False, is_shapes, many, POSITIVES[:many] + ((1, 1),))
        for part in NOT_QUOTIENTS + NAUGHT_OR_LESS:
            self.answers(False, is_shapes, 3, ((1, 1), part, (1, 2)))
        self.answers(False, is_shapes, 10 ** 59, ())

    def test_tables(self):
        row = POSITIVES + ((0, 1),) * 2
        for many in range(len(row) + 1):
            self.answers(True, is_table, many, row[:many])
            self.answers(False, is_table, many + 1, row[:many])
            self.answers(False, is_table, many, list(row[:many]))
        for part in NOT_QUOTIENTS + NAUGHT_OR_LESS[1:]:
            self.answers(False, is_table, 3, ((1, 1), part, (1, 2)))

    def test_many_is_nought(self):
        for call in (is_shapes, is_table):
            self.answers(True, call, 0, ())
            for thing in (None, 0, "", [], ((),), ((1, 1),), ((0, 1),), {}):
                self.assertIs(call(0, thing), False)

    def test_any_value(self):
        deep = ()
        for _ in range(30):
            deep = (deep, [1])
        for thing in (deep, [deep], ("x",) * 5000, "x" * 4000):
            for call in (is_integer, is_quotient, is_positive):
                self.answers(False, call, thing)
            self.answers(False, is_shapes, 2, thing)
            self.answers(False, is_table, 2, thing)

    def test_wrong_many(self):
        for call in (is_shapes, is_table):
            self.refuses(call, {"many": 1, "thing": ((1, 1),)}, {"many": NOT_NUMBERS})


if __name__ == "__main__":
    unittest.main()
