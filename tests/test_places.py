"""Point 16: sides and places."""

import unittest

from hungwall.places import is_place, place_letter, side_after, side_opposite
from tests.helping import E, N, NOT_INTEGERS, S, SIDES, W, HungTest

NOT_SIDES = NOT_INTEGERS + (0, 1, -5, 10 ** 20)


class Places(HungTest):
    def test_sides(self):
        for side, after, opposite in ((W, N, E), (N, E, S), (E, S, W), (S, W, N)):
            self.answers(after, side_after, side)
            self.answers(opposite, side_opposite, side)

    def test_places(self):
        for many in (0, 1, 2, 40, 10 ** 59):
            for side in SIDES:
                self.answers(True, is_place, many, side)
            self.answers(many > 0, is_place, many, 0)
            self.answers(many > 0, is_place, many, many - 1 if many else 0)
            self.answers(False, is_place, many, many)
            for thing in NOT_INTEGERS + (-5, -10 ** 40):
                self.answers(False, is_place, many, thing)

    def test_letters(self):
        for side, letter in zip(SIDES, "WNES"):
            self.answers(letter, place_letter, side)
        for number in (0, 1, 9, 10, 39, 40, 10 ** 17, 10 ** 18 - 1, 10 ** 18, 10 ** 18 + 7, 10 ** 59 + 90):
            self.answers(str(number), place_letter, number)

    def test_wrong(self):
        for call in (side_after, side_opposite):
            self.refuses(call, {"side": W}, {"side": NOT_SIDES})
        wrong_many = NOT_INTEGERS + (-1, -4)
        self.refuses(is_place, {"many": 0, "thing": 0}, {"many": wrong_many})
        self.refuses(place_letter, {"place": 0}, {"place": NOT_INTEGERS + (-5, -10 ** 20)})


if __name__ == "__main__":
    unittest.main()
