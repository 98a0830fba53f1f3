"""The plug of a node that keeps a journal on a disk."""

from fewvisits.errors import Out
from fewvisits.journals import Journal


class Plug:
    """A disk, and whether Out was raised there since its last cut."""

    def __init__(self, disk):
        self.disk = disk
        self.blown = False

    def blow(self):
        """Out was raised: there must be a cut ahead of the next write."""
        self.blown = True

    def pull(self, lands, torn):
        """Cuts the disk."""
        self.disk.cut(lands, torn)
        self.blown = False

    def journal_up(self):
        """A journal that came up on the disk, None if Out was raised."""
        if self.blown:
            self.pull((), ())
        try:
            return Journal(self.disk)
        except Out:
            self.blow()
            return None
