"""Sites: each keeps dos on a disk, takes letters, and outlives its cuts."""

from fewvisits.checks import need_number
from fewvisits.courses import MOST_DEALS
from fewvisits.errors import Out
from fewvisits.journals import meant, need_disk
from fewvisits.keepings import Kept
from fewvisits.letters import MOST_PLACES, need_letter_to
from fewvisits.papers import fixed
from fewvisits.plugs import Plug
from fewvisits.stays import Stay
from fewvisits.tidings import Tidings


class Site:
    """A site with a disk, which it keeps; it is up or out."""

    def __init__(self, number, disk):
        need_number(number, MOST_PLACES, "number")
        need_disk(disk)
        self.number = fixed(number)
        self.disk = disk
        self.life = 0
        self._plug = Plug(disk)
        self._tidings = Tidings()
        self._begin()

    def _begin(self):
        """Comes up, if the disk lets it."""
        journal = self._plug.journal_up()
        if journal is None:
            self._stop()
            return
        self.up = True
        self.life = journal.life
        self._stay = Stay(self.number, journal, self._tidings)
        self._show()

    def _stop(self):
        """Is out: what it had in this life is gone."""
        self.up = False
        self._stay = None
        self.lock = None
        self.date = 0
        self.lying, self.marks, self.working, self.holding, self.past = (), (), (), (), ()

    def _show(self):
        """Shows what it has now."""
        stay = self._stay
        self.lying = tuple([do for do, _ in stay.rows.values()])
        self.marks = tuple(stay.marks)
        self.lock = stay.lock
        self.date = stay.date
        self.working = tuple(stay.deals_at_work())
        self.holding = tuple(sorted(list(stay.holding)))
        self.past = tuple(sorted(list(stay.ended)))

    def take(self, letter):
        """Takes a letter: the letters that it sends."""
        need_letter_to(letter, self.number)
        if not self.up:
            return ()
        try:
            sent = self._stay.take(fixed(letter))
        except Out:
            self._plug.blow()
            self._stop()
            return ()
        self._show()
        return sent

    def drop(self, deal):
        """Calls off a deal that is at work: the letters that it sends."""
        need_number(deal, MOST_DEALS, "deal")
        if not self.up:
            return ()
        sent = self._stay.drop(deal)
        self._show()
        return sent

    def again(self):
        """Asks the teller and the hands again: the letters that it sends."""
        return self._stay.again() if self.up else ()

    def cut(self, lands, torn=()):
        """Pulls the plug: of what waits on the disk these writes land, those are torn."""
        self._plug.pull(lands, torn)
        self._stop()

    def fuse(self, many):
        """Lets the plug go out at this one of the next writes and flushes."""
        self.disk.fuse(many)

    def rise(self):
        """Comes up, if it is out; whether it came up."""
        if self.up:
            return False
        self._begin()
        return self.up

    def news(self):
        """The events since the last call."""
        return self._tidings.take_fresh()


def lies_on(disk):
    """The rows, the ready and the ended deals that a life of a site would have that begins on a disk."""
    need_disk(disk)
    kept = Kept(meant(disk)[2])
    ready = [deal for deal in sorted(kept.readied) if kept.is_ready(deal)]
    return (tuple([do for do, _ in kept.rows.values()]), tuple(ready), tuple(sorted(kept.agreed)))
