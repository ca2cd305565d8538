"""An office in time: people leave it one by one, and the last leaving can be taken back."""

from firstthere.checks import check_deputies
from firstthere.deputies import holders_of
from firstthere.errors import NothingToUndo
from firstthere.leaving import leaving


class Office:
    """Who is there, all at first."""

    def __init__(self, deputies):
        check_deputies(deputies)
        self._deputies = deputies
        self._left = ()

    def leave(self, person):
        """Let a person leave: the pairs (duty, new holder) of the duties that it hands on."""
        handed_on = leaving(self._deputies, self.gone(), person)
        self._left = (*self._left, person)
        return handed_on

    def holders(self):
        """The holders of all duties."""
        return holders_of(self._deputies, self._left)

    def gone(self):
        """The lot of those who left."""
        return tuple(sorted(self._left))

    def order(self):
        """The order in which they left."""
        return self._left

    def undo(self):
        """Take back the last leaving that has not been taken back."""
        if not self._left:
            raise NothingToUndo("nobody has left, or all leavings have been taken back")
        self._left = self._left[:-1]
