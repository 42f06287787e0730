"""Trials of what changes: behind the rows of a `with` statement it may be again as it was ahead of them."""


class Held:
    """What something was when the rows of a trial began, and what was held ahead of that."""

    def __init__(self, state, below):
        self.state = state
        self.below = below


class Trial:
    """A trial of something that is all told by its `state`, which is another one after each change.

    Within its own rows it may be used again; so what it holds lies one above the other.
    """

    def __init__(self, tried_out, stays):
        self.tried_out = tried_out
        # None in place of False: at the end of the rows nothing may be asked of it but whether it is None.
        self.stays = True if stays else None
        self.held = None

    def __enter__(self):
        self.held = Held(self.tried_out.state, self.held)
        return self.tried_out

    def __exit__(self, kind, value, trace):
        tried_out = self.tried_out
        if kind is not None or self.stays is None:
            tried_out.state = self.held.state
        self.held = self.held.below
