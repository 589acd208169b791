"""The shape of one picture by which a wall is just so.

What "just so" is an aim tells: an object with the methods side and gap. By
aim.side(plan, shapes) a wall is before it (-1), just so (0) or beyond it (1).
aim.gap(shapes, widths) is nought where it is just so; over the width of the
picture it changes evenly with the picture's shape for as long as the best
mixture is of the same ways.
"""

from hungwall.beststreams import best_mixture, lengths_on
from hungwall.quotients import difference_of_two, lies_below, product_of_two, ratio_of_two, reduced, sum_of_two
from hungwall.reshaping import reshaped_in


def gap_on(ways, shapes, picture, aim):
    """The gap over the width of a picture, by the best mixture of these ways alone."""
    lengths, least = lengths_on(ways, shapes)
    widths = tuple([reduced(length, least) for length in lengths])
    return ratio_of_two(aim.gap(shapes, widths), widths[picture])


def even_shape(plan, shapes, picture, ends, aim):
    """The shape by which it is just so if the ways of the best mixture stay those of the first end; or None."""
    near, far = ends
    ways, _, _ = best_mixture(plan, reshaped_in(shapes, picture, near))
    gaps = [gap_on(ways, reshaped_in(shapes, picture, end), picture, aim) for end in ends]
    slope = difference_of_two(gaps[1], gaps[0])
    if slope[0] == 0:
        return None
    share = ratio_of_two(gaps[0], slope)
    return difference_of_two(near, product_of_two(share, difference_of_two(far, near)))


def lies_between(ends, shape):
    """Whether a shape is strictly between two others, of which either may be the less one."""
    low, high = ends
    if lies_below(high, low):
        low, high = high, low
    return lies_below(low, shape) and lies_below(shape, high)


def power_of_two(size):
    """The quotient of two, multiplied by itself so many times, perhaps below 0 times."""
    if size < 0:
        return (1, 1 << -size)
    return (1 << size, 1)


def middle_of(ends):
    """A quotient between two: the one half-way, or, if they are far apart, one half-way by their lengths."""
    lengths = [top.bit_length() - bottom.bit_length() for top, bottom in ends]
    if abs(lengths[0] - lengths[1]) > 2:
        return power_of_two((lengths[0] + lengths[1]) // 2)
    return product_of_two(sum_of_two(ends[0], ends[1]), (1, 2))


def narrowed(ends, shape, side):
    """The ends, one of them moved to a shape between them, by the side on which that shape is."""
    if side < 0:
        return (shape, ends[1])
    return (ends[0], shape)


def just_so(plan, shapes, picture, ends, aim):
    """A shape of a picture by which it is just so, from ends of which the first is before it, the second beyond."""
    span = ends
    while True:
        # Halving alone would never end; but it comes to where the ways do not change any more.
        tries = [even_shape(plan, shapes, picture, span, aim), middle_of(span)]
        for shape in tries:
            if shape is not None and lies_between(span, shape):
                side = aim.side(plan, reshaped_in(shapes, picture, shape))
                if side == 0:
                    return shape
                span = narrowed(span, shape, side)
