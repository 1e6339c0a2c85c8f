"""A workshop with its past: deeds that can be undone and done again."""

from gripwood.deeds import done
from gripwood.errors import NothingBack, NothingForth
from gripwood.workshop import Workshop


class Past:
    """A workshop whose deeds are done through it."""

    def __init__(self):
        self.shop = Workshop()
        # Workshops as they were before each deed that stands, and behind each one that was taken back. Only twins are
        # put here, so that whoever holds the workshop of the field changes none of them.
        self.earlier = []
        self.later = []

    def does(self, deed):
        """Does a deed, and tells what it tells."""
        before = self.shop.twin()
        told = done(self.shop, deed)
        self.earlier.append(before)
        self.later = []
        return told

    def undo(self):
        """Takes the last deed back that stands."""
        if not self.earlier:
            raise NothingBack("no deed stands")
        self.later.append(self.shop.twin())
        self.shop = self.earlier.pop()

    def redo(self):
        """Does again what was taken back last."""
        if not self.later:
            raise NothingForth("no deed was taken back")
        self.earlier.append(self.shop.twin())
        self.shop = self.later.pop()

    def backs(self):
        """How many undoings could be done in a row."""
        return len(self.earlier)

    def forths(self):
        """How many redoings could be done in a row."""
        return len(self.later)
