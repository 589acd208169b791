"""Point 21: plans and shapes as lines."""

import unittest

from hungwall.errors import InvalidText
from hungwall.planreadings import read_plan, read_shapes
from hungwall.plantexts import plan_line, shapes_line
from tests.helping import FIVE, FOUR, NAMED, NOT_PLANS, ONE, TUCKED, TWO, HungTest, grown_plan, grown_plans, pile

NOT_TEXTS = (None, True, 0, (), [], ("plan",), ["plan W,N,E,S"], b"plan")
NOT_SHAPES = (
    None, True, 0, "", "1", (), [], [(1, 1)], (1, 1), ((0, 1),), ((-1, 1),), ((2, 4),), ((1, 0),),
    ((True, 1),), ((1, 1), None), ((1, 1), [1, 2]), (("1", "1"),),
)


class Writing(HungTest):
    def test_plans(self):
        self.answers("plan W,N,E,S", plan_line, ONE)
        self.answers("plan W,1,N,E,S W,N,0", plan_line, TUCKED)
        self.answers("plan W,N,1,2,3 N,E,2,0 E,S,3,0,1 W,0,2,S", plan_line, FOUR)
        self.assertTrue(plan_line(pile(40)).endswith(" W,37,E,39 W,38,E,S"))

    def test_shapes(self):
        self.answers("shapes 1", shapes_line, ((1, 1),))
        self.answers("shapes 1/2 3 10/7 12", shapes_line, ((1, 2), (3, 1), (10, 7), (12, 1)))
        top, bottom = 10 ** 19 + 1, 10 ** 19
        self.answers(f"shapes {top}/{bottom}", shapes_line, ((top, bottom),))

    def test_many_figures(self):
        ones = int("1" * 3000) * 10 ** 3000 + int("1" * 3000)
        self.assertEqual(shapes_line(((ones, 1),)), "shapes " + "1" * 6000)
        self.assertEqual(shapes_line(((1, 10 ** 5000),)), "shapes 1/1" + "0" * 5000)

    def test_wrong(self):
        self.refuses(plan_line, {"plan": FIVE}, {"plan": NOT_PLANS})
        self.refuses(shapes_line, {"shapes": ((1, 2),)}, {"shapes": NOT_SHAPES})


class Reading(HungTest):
    def no_text(self, field, call, text):
        self.raises(InvalidText, {"line": 0, "field": field}, call, text)
        self.raises(InvalidText, {"line": 0, "field": field}, call, text=text)

    def test_there_and_back(self):
        for plan in NAMED + tuple(grown_plans()) + (pile(40), grown_plan(40, 4)):
            self.answers(plan, read_plan, plan_line(plan))
        for shapes in (((1, 1),), ((1, 2), (3, 1), (10, 7)), ((10 ** 20 - 1, 10 ** 19),) * 40):
            self.answers(shapes, read_shapes, shapes_line(shapes))

    def test_long_decimals(self):
        self.assertEqual(read_shapes("shapes " + "7" * 5000), ((7 * (10 ** 5000 - 1) // 9, 1),))

    def test_head(self):
        for call, head in ((read_plan, "plan"), (read_shapes, "shapes")):
            for text in ("", " ", "  ", "x", head.upper(), head + "s", head[:-1], " " + head, head + ",", "W,N,E,S", "1"):
                self.no_text(0, call, text)
            self.no_text(1, call, head)
        self.no_text(0, read_plan, "shapes W,N,E,S")
        self.no_text(0, read_shapes, "plan 1")

    def test_circle_words(self):
        words = (
            "", "W", "W,N", "W,N,", ",W,N", "W,,N", "W,N,E,", "w,n,e,s", "W,N,E,E", "N,W,E", "W,N,1,0",
            "W,N,E,0", "W,N,01", "W,N,00", "W,N,40", "W,N,99", "W,N,100", "W,N,-1", "W,N,+1", "W,N,1.0",
            "W, N,E", "W;N;E", "1,2,2", "0,1,2", "2,1,3", "W,N,x", "W,N,WN", "W,N,\n", "-4,-3,-2",
            "W,N,1_1",
        )
        for word in words:
            self.no_text(1, read_plan, "plan " + word)
            self.no_text(1, read_plan, "plan " + word + " x")
        for word in words:
            if word not in ("W,N,E,0", "0,1,2"):
                self.no_text(2, read_plan, "plan W,N,1,S " + word)
        self.no_text(2, read_plan, "plan W,N,1,S W,N,1")
        self.no_text(3, read_plan, "plan W,N,1,S W,N,E,S 0,1,2")

    def test_single_spaces(self):
        self.no_text(1, read_plan, "plan  W,N,E,S")
        self.no_text(2, read_plan, "plan W,N,E,S ")
        self.no_text(0, read_plan, " plan W,N,E,S")
        self.no_text(1, read_plan, "plan \nW,N,E,S")
        self.no_text(2, read_shapes, "shapes 1 ")
        self.no_text(1, read_shapes, "shapes  1")

    def test_no_plan(self):
        self.no_text(2, read_plan, "plan W,N,1,S")
        self.no_text(2, read_plan, "plan W,N,E")
        self.no_text(3, read_plan, "plan W,N,E,S W,N,E,S")
        self.no_text(2, read_plan, "plan W,N,39")
        # A word that is not of its form is told first, wherever it stands.
        self.no_text(3, read_plan, "plan W,N,E,S W,N,E,S 0")

    def test_shape_words(self):
        words = (
            "", "0", "00", "01", "1/1", "2/1", "0/2", "1/0", "2/4", "6/9", "1/02", "01/2", "/2", "1/", "1//2",
            "1/2/3", "-1", "+1", "-1/2", "1/-2", "1.5", "a", "1/b", "1,2", "1_0", "\n1", "0/1",
        )
        for word in words:
            self.no_text(1, read_shapes, "shapes " + word)
            self.no_text(3, read_shapes, "shapes 1 1/2 " + word + " 0")
        self.answers(((1, 1), (1, 2), (10, 1), (100, 7)), read_shapes, "shapes 1 1/2 10 100/7")

    def test_wrong(self):
        self.refuses(read_plan, {"text": plan_line(TWO)}, {"text": NOT_TEXTS})
        self.refuses(read_shapes, {"text": "shapes 1"}, {"text": NOT_TEXTS})


if __name__ == "__main__":
    unittest.main()
