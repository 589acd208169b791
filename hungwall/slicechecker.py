"""The checker of slice papers."""

from hungwall.boxes import UNIT
from hungwall.errors import InvalidPaper
from hungwall.kinds import is_table
from hungwall.lengths import length_in, shortest_in
from hungwall.quotients import lies_below, product_of_two
from hungwall.streams import amount_in, loads_in, streams_through
from hungwall.tables import need_shapes


def is_slice_form(plan, thing):
    """Whether any value is a pair of a table and a stream of what is known to be a plan."""
    if not isinstance(thing, tuple) or len(thing) != 2:
        return False
    return is_table(len(plan), thing[0]) and streams_through(plan, thing[1])


def lets_slices(plan, shapes, thing):
    """The height of the wall whose widths and slices a paper tells."""
    need_shapes(plan, shapes)
    if not is_slice_form(plan, thing):
        raise InvalidPaper("form", -1)
    table, stream = thing
    for k, (way, _) in enumerate(stream):
        if length_in(table, way) != UNIT:
            raise InvalidPaper("length", k)
    for i, load in enumerate(loads_in(len(plan), stream)):
        if load != product_of_two(shapes[i], table[i]):
            raise InvalidPaper("load", i)
    if lies_below(shortest_in(plan, "level", table)[0], UNIT):
        raise InvalidPaper("short", -1)
    return amount_in(stream)
