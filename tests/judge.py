"""What the document says of boxes and walls, tried with fractions, condition by condition."""

from fractions import Fraction

from tests.helping import E, N, S, W


def is_int(thing):
    return type(thing) is int


def is_told_quotient(thing):
    """Whether a value is a pair in lowest terms, by way of a fraction."""
    if type(thing) is not tuple or len(thing) != 2 or not all(is_int(part) for part in thing):
        return False
    return thing[1] > 0 and Fraction(*thing).denominator == thing[1]


def number(pair):
    """The number for which a quotient stands."""
    return Fraction(*pair)


def pair(number):
    """The quotient of a number."""
    return (Fraction(number).numerator, Fraction(number).denominator)


def pairs(numbers):
    """The quotients of numbers."""
    return tuple(pair(part) for part in numbers)


def spans(box):
    """The pairs of the ends of a box across and upward."""
    left, floor, width, height = (number(part) for part in box)
    return (left, left + width), (floor, floor + height)


def is_told_box(thing):
    """Whether a value is a box."""
    if type(thing) is not tuple or len(thing) != 4 or not all(is_told_quotient(part) for part in thing):
        return False
    numbers = [number(part) for part in thing]
    return min(numbers) >= 0 and (numbers[2] == numbers[3] == 0 or min(numbers[2:]) > 0)


def is_sized(box):
    return number(box[2]) > 0 and number(box[3]) > 0


def common(one, other):
    """The pair of how long the common points of two boxes run across and upward; None without such."""
    lengths = [min(a[1], b[1]) - max(a[0], b[0]) for a, b in zip(spans(one), spans(other))]
    return None if min(lengths) < 0 else tuple(lengths)


def is_told_wall(thing):
    """Whether a value is a wall."""
    if type(thing) is not tuple or len(thing) != 2 or not is_told_quotient(thing[0]):
        return False
    height, boxes = thing
    if number(height) <= 0 or type(boxes) is not tuple or not boxes or not all(is_told_box(box) for box in boxes):
        return False
    ends = [(across[1], upward[1]) for across, upward in map(spans, boxes)]
    if any(right > 1 or top > number(height) for right, top in ends):
        return False
    sized = [box for box in boxes if is_sized(box)]
    for at, one in enumerate(sized):
        if any(min(common(one, other) or (0, 0)) > 0 for other in sized[at + 1:]):
            return False
    return sum(number(box[2]) * number(box[3]) for box in boxes) == number(height)


def meets_side(box, height, side):
    """Whether a box meets a side of the frame of a wall of this height."""
    across, upward = spans(box)
    return {W: across[0] == 0, N: upward[1] == number(height), E: across[1] == 1, S: upward[0] == 0}[side]


def is_told_hanging(plan, shapes, thing):
    """Whether a value is a wall of a plan and of shapes."""
    if not is_told_wall(thing) or len(thing[1]) != len(plan):
        return False
    height, boxes = thing
    for i, circle in enumerate(plan):
        if number(boxes[i][3]) != number(shapes[i]) * number(boxes[i][2]):
            return False
        for place in circle:
            meets = meets_side(boxes[i], height, place) if place < 0 else common(boxes[i], boxes[place]) is not None
            if not meets:
                return False
    return True
