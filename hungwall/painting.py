"""Walls painted with letters."""

from hungwall.boxes import edges_of, sized_in
from hungwall.kinds import is_number
from hungwall.needs import need
from hungwall.quotients import lies_below, product_of_two, reduced
from hungwall.walls import is_hanging

LETTERS = "abcdefghijklmnopqrstuvwxyz"
MOST_SIGNS = 40


def is_count(thing):
    """Whether any value is a number of rows, or of columns."""
    return is_number(thing) and 1 <= thing <= MOST_SIGNS


def pictures_over(spans, at):
    """The list of the pictures whose spans have a quotient, their lower ends counted."""
    return [picture for picture, (low, high) in spans.items() if not lies_below(at, low) and lies_below(at, high)]


def painted(wall, rows, columns):
    """The rows of letters, from above, of the pictures whose boxes are there."""
    need(is_hanging(wall), "wall")
    need(is_count(rows), "rows")
    need(is_count(columns), "columns")
    tall, boxes = wall
    edges = {picture: edges_of(boxes[picture]) for picture in sized_in(boxes)}
    across = {picture: part[:2] for picture, part in edges.items()}
    upward = {picture: part[2:] for picture, part in edges.items()}
    over_columns = [pictures_over(across, reduced(2 * c + 1, 2 * columns)) for c in range(columns)]
    heights = [product_of_two(tall, reduced(2 * rows - 2 * r - 1, 2 * rows)) for r in range(rows)]
    found = []
    for height in heights:
        level = pictures_over(upward, height)
        # Of the boxes over one column just one has each height.
        signs = [LETTERS[picture] for over in over_columns for picture in over if picture in level]
        found.append("".join(signs))
    return tuple(found)
