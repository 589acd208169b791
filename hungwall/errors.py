"""The errors of the program. Each one keeps its fields as they are handed in."""


class HangError(ValueError):
    """The base class of all errors."""


class PaperError(HangError):
    """The family of what a checker refuses."""


class PlanError(HangError):
    """The family of what cannot be worked with."""


class LiveError(HangError):
    """The family of what a living wall refuses."""


class TextError(HangError):
    """The family of lines and sketches that cannot be read."""


class InvalidPaper(PaperError):
    """A checker does not let a paper."""

    def __init__(self, word, at):
        self.word = word
        self.at = at


class NotUsable(PlanError):
    """The parameter called word is not as stated."""

    def __init__(self, word, at):
        self.word = word
        self.at = at


class Unfit(PlanError):
    """A height cannot be reached within the stretches."""

    def __init__(self, barring):
        self.barring = barring


class InvalidEvent(LiveError):
    """An event cannot happen."""

    def __init__(self, event, reason):
        self.event = event
        self.reason = reason


class NothingToUndo(LiveError):
    """Fewer events are present than were to be undone."""

    def __init__(self, steps):
        self.steps = steps


class InvalidSketch(TextError):
    """A sketch leads to no plan."""

    def __init__(self, word, at):
        self.word = word
        self.at = at


class InvalidText(TextError):
    """A word of a line is not of its form, or the line tells nothing."""

    def __init__(self, line, field):
        self.line = line
        self.field = field
