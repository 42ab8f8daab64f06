"""The refusals: each is a StrikeError, and none stands under another one."""


class StrikeError(ValueError):
    """Any refusal."""


class BadName(StrikeError):
    """A name is none, or was there ahead, at `place`."""

    def __init__(self, place):
        self.place = place


class BadStrike(StrikeError):
    """A strike is none, or was there ahead, at `place`."""

    def __init__(self, place):
        self.place = place


class BadWeave(StrikeError):
    """In this `part` of a weave the one at `place` is not as told, or was there ahead."""

    def __init__(self, part, place):
        self.part = part
        self.place = place


class BadRow(StrikeError):
    """The text's row of this number is not as told."""

    def __init__(self, row):
        self.row = row


class NoName(StrikeError):
    """There is no such name."""


class NoStrike(StrikeError):
    """There is no such strike."""


class NoMove(StrikeError):
    """That can't be named, or taken back, now."""


class TooMany(StrikeError):
    """There are more than are told."""
