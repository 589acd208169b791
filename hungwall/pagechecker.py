"""The checker of page papers."""

from hungwall.errors import InvalidPaper
from hungwall.kinds import is_shapes, is_table
from hungwall.leastwidths import height_in
from hungwall.pages import need_page
from hungwall.quotients import lies_below
from hungwall.streams import bar_by_stream, streams_through
from hungwall.stretches import first_outside, high_ends, low_ends
from hungwall.tables import bar_by_table


def has_page_form(plan, thing):
    """Whether any value is a pair of a word and of shapes, a stream or a table of what is known to be a plan."""
    if not isinstance(thing, tuple) or len(thing) != 2:
        return False
    word, told = thing
    if word == "let":
        return is_shapes(len(plan), told)
    if word == "low":
        return streams_through(plan, told)
    return word == "high" and is_table(len(plan), told)


def check_let(plan, stretches, height, shapes):
    """Refuse shapes that are not within the stretches, or that lead to another height."""
    picture = first_outside(stretches, shapes)
    if picture is not None:
        raise InvalidPaper("shape", picture)
    if height_in(plan, shapes) != height:
        raise InvalidPaper("height", -1)


def check_bar(holds):
    """Refuse a bar that does not hold."""
    if not holds:
        raise InvalidPaper("bar", -1)


def lets_page(plan, stretches, height, thing):
    """The word of a page paper."""
    need_page(plan, stretches, height)
    if not has_page_form(plan, thing):
        raise InvalidPaper("form", -1)
    word, told = thing
    if word == "let":
        check_let(plan, stretches, height, told)
    elif word == "low":
        check_bar(lies_below(height, bar_by_stream(low_ends(stretches), told)))
    else:
        bar = bar_by_table(plan, high_ends(stretches), told)
        check_bar(bar is not None and lies_below(bar, height))
    return word
