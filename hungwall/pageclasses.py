"""A plan and its stretches, kept for pages of any height."""

from hungwall.kinds import is_positive
from hungwall.needs import need
from hungwall.pagepapers import page_shown
from hungwall.pages import fitted_in
from hungwall.planchecker import is_plan
from hungwall.quotients import lies_below
from hungwall.ranges import range_in
from hungwall.stretches import is_stretches


class Page:
    """The heights that a plan's wall can have within its stretches."""

    def __init__(self, circles, told):
        need(is_plan(circles), "circles")
        need(is_stretches(len(circles), told), "told")
        self.circles = circles
        self.told = told
        self.least, self.most = range_in(circles, told)

    def fits(self, height):
        """Whether the wall has a height by some shapes within the stretches."""
        need(is_positive(height), "height")
        return not lies_below(height, self.least) and not lies_below(self.most, height)

    def shapes_for(self, height):
        """The shapes within the stretches that lead to a height."""
        need(is_positive(height), "height")
        return fitted_in(self.circles, self.told, height)

    def shown_paper(self, height):
        """Any page paper for a height."""
        need(is_positive(height), "height")
        return page_shown(self.circles, self.told, height)
