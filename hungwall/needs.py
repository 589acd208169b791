"""What every function asks of its parameters."""

from hungwall.errors import NotUsable


def need(holds, word):
    """Refuse the parameter called word unless it is as stated."""
    if not holds:
        raise NotUsable(word, -1)
