"""Papers that show whether a wall fits a page."""

from hungwall.pages import barring_of, fitting_shapes, need_page


def page_shown(plan, stretches, height):
    """A page paper of what is known to be a plan, its stretches and a height."""
    barring = barring_of(plan, stretches, height)
    if barring is not None:
        return barring
    return ("let", fitting_shapes(plan, stretches, height))


def page_paper(plan, stretches, height):
    """Any page paper: shapes that lead to the height, or what bars it."""
    need_page(plan, stretches, height)
    return page_shown(plan, stretches, height)
