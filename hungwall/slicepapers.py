"""The paper of the widths and the level slices of a wall."""

from hungwall.hanging import hung_in
from hungwall.slices import level_in
from hungwall.tables import need_shapes


def slice_paper(plan, shapes):
    """The pair of the widths of the boxes and the level slices of the wall."""
    need_shapes(plan, shapes)
    boxes = hung_in(plan, shapes)[1]
    return (tuple([box[2] for box in boxes]), level_in(boxes))
