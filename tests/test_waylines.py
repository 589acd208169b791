"""Point 40: ways as lines."""

import unittest

from hungwall.errors import InvalidText
from hungwall.straightways import all_ways
from hungwall.wayreadings import read_way
from hungwall.waytexts import way_line
from tests.helping import NAMED, NOT_KINDS, NOT_TEXTS, HungTest

KINDS = ("level", "upright")
DOWN = tuple(range(40))


class Writing(HungTest):
    def test_lines(self):
        self.answers("level 0 4 2", way_line, "level", (0, 4, 2))
        self.answers("upright 39", way_line, "upright", (39,))
        # No plan is asked for.
        self.answers("upright 12 0 7", way_line, "upright", (12, 0, 7))
        self.answers("level " + " ".join(str(k) for k in DOWN), way_line, "level", DOWN)

    def test_wrong(self):
        ways = (
            None, True, 0, "", "0", (), [], [0, 1], (True,), (0, False), (0, 0), (1, 2, 1), (40,), (0, 41), (-1,), (-4, 0),
            (0, None), (0, "1"), ((0,),), (0, [1]), (0, 10 ** 30), ("level", (0,)),
        )
        self.refuses(way_line, {"kind": "level", "way": (0, 1)}, {"kind": NOT_KINDS, "way": ways})


class Reading(HungTest):
    def no_text(self, field, text):
        self.raises(InvalidText, {"line": 0, "field": field}, read_way, text)
        self.raises(InvalidText, {"line": 0, "field": field}, read_way, text=text)

    def test_there_and_back(self):
        for plan in NAMED:
            for kind in KINDS:
                for way in all_ways(plan, kind):
                    self.answers((kind, way), read_way, way_line(kind, way))
        for kind in KINDS:
            self.answers((kind, DOWN[::-1]), read_way, way_line(kind, DOWN[::-1]))
            self.answers((kind, (39, 0, 10)), read_way, kind + " 39 0 10")

    def test_head(self):
        for text in ("", " ", "  ", "0", "x 0", "Level 0", "LEVEL", "levels 0", "leve", " level 0", "level,0", "level\n0"):
            self.no_text(0, text)
        for text in ("level\n 0", "plan W,N,E,S", "0 level", "upright0", "across 0 1", "shapes 1"):
            self.no_text(0, text)

    def test_one_word(self):
        self.no_text(1, "level")
        self.no_text(1, "upright")

    def test_words(self):
        words = (
            "", "x", "W", "40", "41", "99", "100", "-1", "+1", "00", "01", "007", "1.0", "1,2", "1_0", "0x1", "\n1", "1\n",
            "level", "123456789012345678901234567890", "1e1", "2/1",
        )
        for word in words:
            self.no_text(1, "level " + word)
            self.no_text(1, "upright " + word + " 0")
            self.no_text(3, "level 0 39 " + word)
            self.no_text(3, "level 0 39 " + word + " x")

    def test_single_spaces(self):
        self.no_text(1, "level ")
        self.no_text(1, "level  0")
        self.no_text(2, "level 0 ")
        self.no_text(2, "level 0  1")
        self.no_text(3, "upright 1 0 ")

    def test_doubled(self):
        self.no_text(2, "level 0 0")
        self.no_text(3, "level 0 4 0")
        self.no_text(4, "upright 3 2 1 1")
        self.no_text(3, "upright 3 2 3 x")
        self.no_text(2, "upright 3 x 3")

    def test_wrong(self):
        self.refuses(read_way, {"text": "level 0"}, {"text": NOT_TEXTS})


if __name__ == "__main__":
    unittest.main()
