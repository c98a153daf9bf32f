"""Trials of a desk: what is done in one stays only if it ends well."""


class Trial:
    """Rows that leave a desk as it was when they began if they end with an exception."""

    def __init__(self, desk):
        self._desk = desk
        # What the desk was when rows began, the outermost first, since one trial may stand within itself. As many
        # of these rows as the depth have not ended; what stands behind them is of rows that have.
        self._states = ()
        self._depth = 0

    def __enter__(self):
        desk = self._desk
        self._states = self._states[:self._depth] + (desk.state,)
        self._depth += 1
        return desk

    def __exit__(self, kind, value, trace):
        desk = self._desk
        self._depth -= 1
        if kind is not None:
            # No item is looked up at the end of a with statement: the desk itself does so, at this place.
            desk.states = self._states
            desk.place = self._depth
