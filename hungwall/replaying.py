"""Logs replayed."""

from hungwall.live import LiveHung
from hungwall.liveevents import is_log
from hungwall.needs import need


def replayed(log):
    """A new living wall to which the events of a log have happened."""
    need(is_log(log), "log")
    circles, told, events = log
    live = LiveHung(circles, told)
    for event in events:
        live.go(event)
    return live
