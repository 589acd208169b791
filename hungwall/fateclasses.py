"""The fates of the pictures of a plan as an object."""

from hungwall.fatepapers import fate_shown
from hungwall.fates import fates_in
from hungwall.needs import need
from hungwall.placings import placings_of
from hungwall.places import is_picture
from hungwall.planchecker import is_plan


def lot_of(fates, word):
    """The lot of the pictures that have a fate."""
    return tuple([picture for picture, fate in enumerate(fates) if fate == word])


class Fates:
    """The fates of all pictures of a plan."""

    def __init__(self, circles):
        need(is_plan(circles), "circles")
        self.circles = circles
        self.words = fates_in(circles)
        self.always = lot_of(self.words, "always")
        self.never = lot_of(self.words, "never")
        self.both = lot_of(self.words, "both")

    def fate(self, picture):
        """The fate of a picture."""
        need(is_picture(len(self.circles), picture), "picture")
        return self.words[picture]

    def shown_paper(self, picture):
        """Any fate paper of a picture."""
        need(is_picture(len(self.circles), picture), "picture")
        return fate_shown(self.circles, picture)

    def placings(self, one, other):
        """The set of the words that tell where one can hang of other."""
        return placings_of(self.circles, one, other)
