"""Why a text is no diagram."""


class Fault(Exception):
    """A fault of a text: its code, and the place where it lies."""

    def __init__(self, code, place):
        self.code = code
        self.place = place
