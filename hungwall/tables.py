"""Tables, and what the height is at most by them."""

from hungwall.kinds import is_shape_row, is_shapes, is_table
from hungwall.lengths import shortest_in
from hungwall.needs import need
from hungwall.planchecker import is_plan
from hungwall.quotients import product_of_two, ratio_of_two
from hungwall.sums import sum_of_row


def need_shapes(plan, shapes):
    """Refuse the first of a plan and its shapes that is not as stated."""
    need(is_plan(plan), "plan")
    need(is_shapes(len(plan), shapes), "shapes")


def weight_in(shapes, table):
    """The sum of shape times entry times entry, all known to fit."""
    return sum_of_row([product_of_two(shape, product_of_two(one, one)) for shape, one in zip(shapes, table)])


def bar_by_table(plan, shapes, table):
    """What the height is at most by what is known to be a table; None if some level way has the length 0."""
    least, _ = shortest_in(plan, "level", table)
    if least[0] == 0:
        return None
    return ratio_of_two(weight_in(shapes, table), product_of_two(least, least))


def table_weight(shapes, table):
    """The sum of shape times entry times entry."""
    need(is_shape_row(shapes) and len(shapes) > 0, "shapes")
    need(is_table(len(shapes), table), "table")
    return weight_in(shapes, table)


def table_bar(plan, shapes, table):
    """What the height is at most by a table."""
    need_shapes(plan, shapes)
    need(is_table(len(plan), table), "table")
    bar = bar_by_table(plan, shapes, table)
    need(bar is not None, "table")
    return bar
