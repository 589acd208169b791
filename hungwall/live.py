"""A living wall: pictures come, go and change, and all can be undone."""

from hungwall.errors import InvalidEvent, NothingToUndo
from hungwall.fates import fates_in
from hungwall.hanging import hung_in
from hungwall.happenings import changed_by, fits_places, told_pictures
from hungwall.kinds import is_number, is_shapes
from hungwall.leastwidths import height_in, widths_in
from hungwall.liveevents import is_event
from hungwall.needs import need
from hungwall.planchecker import is_plan
from hungwall.points import points_by

MOST_HUNG = 12


class LiveHung:
    """A plan and shapes, and the events that have happened to them."""

    LONGEST = 40

    def __init__(self, circles, told):
        need(is_plan(circles), "circles")
        need(is_shapes(len(circles), told), "told")
        self.circles = circles
        self.told = told
        self.present = []
        # The plan and shapes at first, and after each of the present events.
        self.states = [(circles, told)]
        self.happened = 0
        self.refused = 0
        self.undone = 0
        self.foreseen = 0

    def __eq__(self, other):
        if not isinstance(other, LiveHung) or self.circles != other.circles:
            return False
        return self.told == other.told and self.present == other.present

    def __len__(self):
        return len(self.present)

    def plan_now(self):
        """The present plan."""
        return self.states[-1][0]

    def shapes_now(self):
        """The present shapes."""
        return self.states[-1][1]

    def height_now(self):
        """The height of the present wall."""
        return height_in(self.plan_now(), self.shapes_now())

    def hung_now(self):
        """The present wall."""
        return hung_in(self.plan_now(), self.shapes_now())

    def points_now(self):
        """The lot of the pictures that are points in the present wall."""
        return points_by(widths_in(self.plan_now(), self.shapes_now()))

    def fates_now(self):
        """The tuple of the fates of the pictures of the present plan."""
        return fates_in(self.plan_now())

    def reason_for(self, event):
        """Why any value cannot happen now, or None."""
        plan = self.plan_now()
        if not is_event(event):
            return "form"
        if len(self.present) >= self.LONGEST:
            return "many"
        if any([picture >= len(plan) for picture in told_pictures(event)]):
            return "picture"
        if not fits_places(plan, event):
            return "places"
        if len(changed_by(self.states[-1], event)[0]) > MOST_HUNG:
            return "size"
        return None

    def check_event(self, event):
        """Refuse any value that cannot happen now, and count this."""
        reason = self.reason_for(event)
        if reason is not None:
            self.refused += 1
            raise InvalidEvent(event, reason)

    def let_happen(self, event):
        """Let an event happen that can."""
        self.states.append(changed_by(self.states[-1], event))
        self.present.append(event)

    def take_back(self, many):
        """Leave so many of the present events."""
        del self.present[many:]
        del self.states[many + 1:]

    def go(self, event):
        """Let an event happen; how many pictures there are then."""
        self.check_event(event)
        self.let_happen(event)
        self.happened += 1
        return len(self.plan_now())

    def tried(self, event):
        """The height to which an event would lead."""
        self.check_event(event)
        plan, shapes = changed_by(self.states[-1], event)
        self.foreseen += 1
        return height_in(plan, shapes)

    def do_all(self, events, keep=False):
        """Let events happen, all or, with keep, as many as can; their count and the reason why no more."""
        need(isinstance(events, tuple), "events")
        need(isinstance(keep, bool), "keep")
        before = len(self.present)
        count = 0
        while count < len(events) and self.reason_for(events[count]) is None:
            self.let_happen(events[count])
            count += 1
        reason = None
        if count < len(events):
            reason = self.reason_for(events[count])
            self.refused += 1
        if reason is None or keep:
            self.happened += count
        else:
            self.take_back(before)
        return (count, reason)

    def undo(self, steps=1):
        """Undo the last of the present events; how many are left."""
        need(is_number(steps), "steps")
        if steps > len(self.present):
            raise NothingToUndo(steps)
        self.take_back(len(self.present) - steps)
        self.undone += steps
        return len(self.present)

    def log(self):
        """The log of the first plan and shapes and the present events."""
        return (self.circles, self.told, tuple(self.present))

    def tally(self):
        """The counts of what happened, was refused, was undone and was only tried."""
        return (self.happened, self.refused, self.undone, self.foreseen)
