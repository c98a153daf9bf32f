"""Trials of a desk: what is done in one stays only if it ends well."""


class Held:
    """What a desk was when rows of a trial began, and what is held for the rows around these."""

    def __init__(self, now, around):
        self.now = now
        self.around = around


class Trial:
    """Rows that leave a desk as it was when they began if they end with an exception."""

    def __init__(self, desk):
        self._desk = desk
        # What the desk was when the innermost of these rows began; one trial may stand within itself.
        self._now = None
        self._around = None

    def __enter__(self):
        self._around = Held(self._now, self._around)
        self._now = self._desk.state
        return self._desk

    def __exit__(self, kind, value, trace):
        desk = self._desk
        if kind is not None:
            desk.state = self._now
        self.shut()

    def shut(self):
        # What is held for the rows around is the innermost again.
        around = self._around
        self._now = around.now
        self._around = around.around
