"""Streams, their amounts and loads, and what the height is at least by them."""

from hungwall.kinds import is_number, is_positive
from hungwall.needs import need
from hungwall.places import is_number_row
from hungwall.planchecker import is_plan
from hungwall.quotients import product_of_two, ratio_of_two, sum_of_two
from hungwall.sums import sum_of_row
from hungwall.tables import need_shapes
from hungwall.waykinds import goes_through


def are_weighted(thing):
    """Whether any value is a nonempty tuple of pairs of some value and a positive quotient."""
    if not isinstance(thing, tuple) or len(thing) == 0:
        return False
    if not all([isinstance(part, tuple) and len(part) == 2 for part in thing]):
        return False
    return all([is_positive(part[1]) for part in thing])


def streams_through(plan, thing):
    """Whether any value is a stream of what is known to be a plan."""
    if not are_weighted(thing) or not all([goes_through(plan, "level", part[0]) for part in thing]):
        return False
    return len({part[0] for part in thing}) == len(thing)


def is_loose_stream(thing):
    """Whether any value is a stream where no plan is asked for."""
    return are_weighted(thing) and all([is_number_row(part[0]) for part in thing])


def amount_in(stream):
    """The sum of the weights of what is known to be a stream."""
    return sum_of_row([part[1] for part in stream])


def loads_in(many, stream):
    """The loads of so many pictures by what is known to be a stream of them."""
    loads = [(0, 1)] * many
    for way, weight in stream:
        for picture in way:
            loads[picture] = sum_of_two(loads[picture], weight)
    return tuple(loads)


def bar_by_stream(shapes, stream):
    """What the height is at least by what is known to be a stream."""
    amount = amount_in(stream)
    loads = loads_in(len(shapes), stream)
    parts = [ratio_of_two(product_of_two(load, load), shape) for load, shape in zip(loads, shapes)]
    return ratio_of_two(product_of_two(amount, amount), sum_of_row(parts))


def is_stream(plan, thing):
    """Whether any value is a stream of the plan."""
    need(is_plan(plan), "plan")
    return streams_through(plan, thing)


def stream_amount(stream):
    """The sum of the weights of a stream of any plan."""
    need(is_loose_stream(stream), "stream")
    return amount_in(stream)


def stream_loads(many, stream):
    """The loads of so many pictures by a stream of any plan."""
    need(is_number(many), "many")
    need(is_loose_stream(stream), "stream")
    need(all([max(part[0]) < many for part in stream]), "stream")
    return loads_in(many, stream)


def stream_bar(plan, shapes, stream):
    """What the height is at least by a stream."""
    need_shapes(plan, shapes)
    need(streams_through(plan, stream), "stream")
    return bar_by_stream(shapes, stream)
