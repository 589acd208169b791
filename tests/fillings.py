"""Walls for tests, cut from a frame with fractions: no plan is asked for."""

import random
from fractions import Fraction

from tests.judge import pair, pairs

SHARES = (Fraction(1, 2), Fraction(1, 2), Fraction(1, 3), Fraction(2, 3), Fraction(3, 7))


def cut_in_two(source, frame):
    """The two parts of a box, side by side or one above the other."""
    left, floor, width, height = frame
    share = source.choice(SHARES)
    if source.random() < 0.5:
        return [(left, floor, width * share, height), (left + width * share, floor, width * (1 - share), height)]
    return [(left, floor, width, height * share), (left, floor + height * share, width, height * (1 - share))]


def wound(source, frame):
    """The five parts of a box that go round, one of them in the middle; in one direction or the other."""
    left, floor, width, height = frame
    a, b = sorted(source.sample(range(1, 7), 2))
    c, d = sorted(source.sample(range(1, 7), 2))
    parts = [(0, 0, b, c), (b, 0, 7 - b, d), (a, d, 7 - a, 7 - d), (0, c, a, 7 - c), (a, c, b - a, d - c)]
    if source.random() < 0.5:
        parts = [(7 - x - w, y, w, h) for x, y, w, h in parts]
    width, height = Fraction(width) / 7, Fraction(height) / 7
    return [(left + x * width, floor + y * height, w * width, h * height) for x, y, w, h in parts]


def crossed(frame):
    """The four quarters of a box."""
    left, floor, width, height = frame
    width, height = Fraction(width) / 2, Fraction(height) / 2
    return [(left + x * width, floor + y * height, width, height) for x in (0, 1) for y in (0, 1)]


def filling_of(many, seed):
    """A filling of so many boxes."""
    source = random.Random(seed)
    height = source.choice((Fraction(1), Fraction(1, 2), Fraction(13, 11), Fraction(10 ** 20 + 1, 10 ** 20 - 1)))
    boxes = [(Fraction(0), Fraction(0), Fraction(1), height)]
    while len(boxes) < many:
        frame = boxes.pop(source.randrange(len(boxes)))
        left = many - len(boxes)
        how = source.random()
        if left >= 5 and how < 0.3:
            boxes.extend(wound(source, frame))
        elif left >= 4 and how < 0.5:
            boxes.extend(crossed(frame))
        else:
            boxes.extend(cut_in_two(source, frame))
    source.shuffle(boxes)
    return (pair(height), tuple(pairs(box) for box in boxes))


def with_points(filling, count, seed):
    """The wall of a filling and so many points, anywhere in the frame and anywhere among the boxes."""
    source = random.Random(seed)
    height, boxes = filling
    boxes = list(boxes)
    for _ in range(count):
        box = source.choice(filling[1])
        x = source.choice((Fraction(1, 5), Fraction(*box[0])))
        y = source.choice((Fraction(*height), Fraction(*height) / 3, Fraction(*box[1])))
        boxes.insert(source.randrange(len(boxes) + 1), pairs((x, y, 0, 0)))
    return (height, tuple(boxes))


FILLINGS = [filling_of(many, 50 * many + seed) for many in range(1, 13) for seed in range(6)]
POINTED = [with_points(filling_of(many, seed), 1 + seed % 3, seed) for many in range(1, 10) for seed in range(4)]
FORTY = [filling_of(40, seed) for seed in range(3)]
ONE_BOX = ((1, 1), (((0, 1), (0, 1), (1, 1), (1, 1)),))
HALF = ((1, 1), (((0, 1), (0, 1), (1, 2), (1, 1)), ((1, 2), (0, 1), (1, 2), (1, 1))))
POINT_BOX = ((1, 1), (((0, 1), (1, 1), (0, 1), (0, 1)), ((0, 1), (0, 1), (1, 1), (1, 1))))


def changed(wall, picture, at, part):
    """The wall with another value at an index of the box of a picture."""
    boxes = list(wall[1])
    boxes[picture] = boxes[picture][:at] + (part,) + boxes[picture][at + 1:]
    return (wall[0], tuple(boxes))


NOT_WALLS = (
    None, True, 0, "", (), [], (1, 1), ((1, 1),), ((1, 1), ()), ((1, 1), [ONE_BOX[1][0]]), list(ONE_BOX), ONE_BOX[::-1],
    ONE_BOX + (0,), ONE_BOX[1], ONE_BOX[1][0], (ONE_BOX,), ((0, 1), ONE_BOX[1]), ((-1, 1), ONE_BOX[1]),
    ((2, 2), ONE_BOX[1]), ((True, 1), ONE_BOX[1]), ([1, 1], ONE_BOX[1]), (1, ONE_BOX[1]), ((1, 1), ONE_BOX[1][0]),
    ((1, 1), ONE_BOX[1] + (None,)), ((1, 1), ONE_BOX[1] + ((),)), ((1, 1), ([(0, 1), (0, 1), (1, 1), (1, 1)],)),
    # Areas that are less, or more, than the frame; boxes on one another; boxes that leave the frame.
    ((2, 1), ONE_BOX[1]), ((1, 2), ONE_BOX[1]), ((1, 1), HALF[1][:1]), ((1, 1), HALF[1][:1] * 2), ((1, 1), ONE_BOX[1] * 2),
    changed(HALF, 1, 0, (1, 3)), changed(HALF, 1, 0, (2, 3)), changed(HALF, 0, 1, (1, 1)), changed(HALF, 1, 0, (-1, 2)),
    # Points off the frame, boxes that are neither points nor with size.
    changed(POINT_BOX, 0, 0, (3, 2)), changed(POINT_BOX, 0, 1, (3, 2)), changed(POINT_BOX, 0, 2, (1, 2)),
    changed(POINT_BOX, 0, 3, (1, 2)), changed(POINT_BOX, 0, 0, (-1, 2)), ((1, 1), POINT_BOX[1][:1]),
    # What is equal, and yet no quotient.
    changed(ONE_BOX, 0, 2, (True, 1)), changed(ONE_BOX, 0, 2, (1, True)), changed(ONE_BOX, 0, 0, (False, 1)),
    changed(ONE_BOX, 0, 2, [1, 1]), changed(ONE_BOX, 0, 2, (2, 2)), changed(ONE_BOX, 0, 0, (0, 2)), changed(ONE_BOX, 0, 2, 1),
)
