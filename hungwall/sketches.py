"""Sketches of letters, read into plans.

A grid is a list of rows, each a list of picture numbers, one for each sign.
A point (r, c) of a grid is the upper left corner of the sign (r, c).
"""

from hungwall.circles import from_least, merged
from hungwall.errors import InvalidSketch
from hungwall.needs import need
from hungwall.places import E, N, S, W

MOST_ROWS = 20
MOST_SIGNS = 20
SLANTS = ("falling", "rising")


def is_slant(thing):
    """Whether any value is one of the two slants."""
    return isinstance(thing, str) and thing in SLANTS


def is_sketch(thing):
    """Whether any value is a tuple of strings of one length, as a sketch is."""
    if not isinstance(thing, tuple) or not 1 <= len(thing) <= MOST_ROWS:
        return False
    if not all([isinstance(row, str) for row in thing]):
        return False
    return 1 <= len(thing[0]) <= MOST_SIGNS and all([len(row) == len(thing[0]) for row in thing])


def check_letters(rows):
    """Refuse the first sign that is no letter."""
    for r, row in enumerate(rows):
        for c, sign in enumerate(row):
            if not "a" <= sign <= "z":
                raise InvalidSketch("letter", (r, c))


def letters_in(rows):
    """The set of the letters of a sketch."""
    return tuple(sorted(set("".join(rows))))


def numbered(rows, letters):
    """The grid of a sketch."""
    numbers = {letter: k for k, letter in enumerate(letters)}
    return [[numbers[sign] for sign in row] for row in rows]


def beyond(grid, r, c):
    """The picture of a sign, or the side off which (r, c) lies."""
    if r < 0:
        return N
    if r >= len(grid):
        return S
    if c < 0:
        return W
    if c >= len(grid[0]):
        return E
    return grid[r][c]


def signs_of(grid, k):
    """The list of the signs of a picture, row by row."""
    return [(r, c) for r, row in enumerate(grid) for c, number in enumerate(row) if number == k]


def chained(signs):
    """The dict of the signs that chains of neighbours join to the first one."""
    free = {sign: True for sign in signs}
    reached = {signs[0]: True}
    queue = [signs[0]]
    while queue:
        r, c = queue.pop()
        for sign in ((r - 1, c), (r, c + 1), (r + 1, c), (r, c - 1)):
            if sign in free and sign not in reached:
                reached[sign] = True
                queue.append(sign)
    return reached


def check_parts(grid, many):
    """Refuse the first picture whose signs are not joined."""
    for k in range(many):
        signs = signs_of(grid, k)
        if len(chained(signs)) < len(signs):
            raise InvalidSketch("parts", k)


def is_pinched(one, two, three, four):
    """Whether two opposite ones of four signs round a point touch there alone."""
    if one == three and two != one and four != one:
        return True
    return two == four and one != two and three != two


def around_point(grid, r, c):
    """The pictures of the four signs round a point, clockwise from above left."""
    return (grid[r - 1][c - 1], grid[r - 1][c], grid[r][c], grid[r][c - 1])


def check_corners(grid):
    """Refuse the first point at which a picture touches itself."""
    for r in range(len(grid) - 1):
        for c in range(len(grid[0]) - 1):
            one, two, three, four = around_point(grid, r + 1, c + 1)
            if is_pinched(one, two, three, four):
                raise InvalidSketch("corner", (r, c))


def count_of_holes(signs):
    """How many holes there are in signs that hang together and touch themselves nowhere."""
    free = {sign: True for sign in signs}
    pairs = sum([1 for r, c in signs if (r, c + 1) in free])
    pairs += sum([1 for r, c in signs if (r + 1, c) in free])
    squares = sum([1 for r, c in signs if is_square(free, r, c)])
    return 1 - (len(signs) - pairs + squares)


def is_square(free, r, c):
    """Whether a sign is the upper left one of a square of two by two signs."""
    return (r, c + 1) in free and (r + 1, c) in free and (r + 1, c + 1) in free


def check_holes(grid, many):
    """Refuse the first picture that has a hole."""
    for k in range(many):
        if count_of_holes(signs_of(grid, k)) != 0:
            raise InvalidSketch("hole", k)


def edges_of(grid, k):
    """A dict of the edges round a picture, clockwise: begin to (end, what is beyond)."""
    edges = {}
    for r, c in signs_of(grid, k):
        round_sign = (
            ((r, c), (r, c + 1), beyond(grid, r - 1, c)),
            ((r, c + 1), (r + 1, c + 1), beyond(grid, r, c + 1)),
            ((r + 1, c + 1), (r + 1, c), beyond(grid, r + 1, c)),
            ((r + 1, c), (r, c), beyond(grid, r, c - 1)),
        )
        for begin, end, place in round_sign:
            if place != k:
                edges[begin] = (end, place)
    return edges


def across(grid, k, point, slant):
    """The list of the picture opposite to k at a point where four meet, if the slant ties them."""
    r, c = point
    if not 0 < r < len(grid) or not 0 < c < len(grid[0]):
        return []
    four = around_point(grid, r, c)
    if len(set(four)) < 4:
        return []
    at = four.index(k)
    # Above left and below right have the even places in four.
    if (at % 2 == 0) != (slant == "falling"):
        return []
    return [four[at - 2]]


def walk_round(grid, k, slant):
    """The walk round a picture that hangs together, has no hole and touches itself nowhere."""
    edges = edges_of(grid, k)
    first = signs_of(grid, k)[0]
    walk = []
    point = first
    while not walk or point != first:
        point, place = edges[point]
        walk.append(place)
        walk.extend(across(grid, k, point, slant))
    return merged(walk)


def read_sketch(rows, slant):
    """The plan that a sketch tells."""
    need(is_sketch(rows), "rows")
    need(is_slant(slant), "slant")
    check_letters(rows)
    letters = letters_in(rows)
    grid = numbered(rows, letters)
    check_parts(grid, len(letters))
    check_corners(grid)
    check_holes(grid, len(letters))
    walks = [walk_round(grid, k, slant) for k in range(len(letters))]
    for k, walk in enumerate(walks):
        if len(set(walk)) < len(walk):
            raise InvalidSketch("twice", k)
    return tuple([from_least(walk) for walk in walks])


def sketch_letters(rows):
    """The set of the letters of a sketch."""
    need(is_sketch(rows), "rows")
    check_letters(rows)
    return letters_in(rows)
