"""The teller: asks the sites of a deal whether they hold, and tells all of them yes or no."""

from fewvisits.checks import need_number
from fewvisits.courses import MOST_DEALS
from fewvisits.errors import Out
from fewvisits.journals import meant, need_disk
from fewvisits.letters import MOST_PLACES, TELLER, need_letter_to
from fewvisits.papers import fixed
from fewvisits.plugs import Plug


class Poll:
    """A deal that is asked round: the hand that sent its end, its parts, and the sites that said held."""

    def __init__(self, hand, parts):
        self.hand = hand
        self.parts = parts
        self.sites = tuple([part[0] for part in parts])
        self.held = {}


def told_yes(record):
    """The deal and the lot of its sites that the record of a yes tells."""
    return (record[0], tuple([site for site in range(MOST_PLACES) if (record[1] >> site) & 1 == 1]))


class Teller:
    """The teller with a disk, which it keeps; it is up or out."""

    def __init__(self, disk):
        need_disk(disk)
        self.disk = disk
        self.life = 0
        self._plug = Plug(disk)
        self._begin()

    def _begin(self):
        """Comes up, if the disk lets it."""
        self._stop()
        journal = self._plug.journal_up()
        if journal is None:
            return
        self.up = True
        self.life = journal.life
        self._journal = journal
        self._agreed = dict([told_yes(record) for record in journal.records()])

    def _stop(self):
        """Is out: what it knew in this life is gone."""
        self.up = False
        self.asking = ()
        self._journal = None
        self._polls = {}
        self._agreed = {}
        self._refused = {}
        self._done = {}

    def _show(self):
        """Shows which deals are asked round now."""
        self.asking = tuple(sorted(list(self._polls)))

    def take(self, letter):
        """Takes a letter: the letters that it sends."""
        need_letter_to(letter, TELLER)
        if not self.up:
            return ()
        try:
            sent = self._take(fixed(letter))
        except Out:
            self._plug.blow()
            self._stop()
            return ()
        self._show()
        return tuple(sent)

    def _take(self, letter):
        """The letters that come of a letter, by its word."""
        node, word, deal = letter[1:4]
        if word == "end":
            return self._take_end(node, deal, letter[4], letter[5])
        if word == "done":
            if node in self._agreed.get(deal, ()):
                self._done[(deal, node)] = True
            return []
        if deal in self._polls:
            return self._take_said(node, word, deal)
        return [] if word == "barred" else self._take_what(node, deal)

    def _take_end(self, hand, deal, life, parts):
        """Asks round, again for a deal that is asked round; tells what is decided."""
        if deal in self._polls:
            return self._holds(deal)
        if deal not in self._agreed and deal not in self._refused and life == self.life:
            self._polls[deal] = Poll(hand, parts)
            return self._holds(deal) if parts else self._agree(deal)
        if deal in self._agreed:
            return [self._telling(hand, deal, 1)]
        self._refused[deal] = True
        return [self._telling(hand, deal, 0)]

    def _take_said(self, site, word, deal):
        """Takes what a site says of a deal that is asked round."""
        poll = self._polls[deal]
        if word == "what" or site not in poll.sites:
            return []
        if word == "barred":
            return self._refuse(deal)
        poll.held[site] = True
        return self._agree(deal) if len(poll.held) == len(poll.sites) else []

    def _take_what(self, site, deal):
        """Tells a site what became of a deal that is not asked round: no, if nothing is known of it."""
        if deal in self._agreed:
            return [(site, TELLER, "yes", deal)]
        self._refused[deal] = True
        return [(site, TELLER, "no", deal)]

    def _telling(self, hand, deal, told):
        """The letter that tells a hand yes or no."""
        return (hand, TELLER, "told", deal, told, self.life)

    def _holds(self, deal):
        """The letters that ask the sites of a deal which have not said held."""
        poll = self._polls[deal]
        return [(site, TELLER, "hold", deal, many, life) for site, many, life in poll.parts if site not in poll.held]

    def _agree(self, deal):
        """Decides yes, if there is room for it: the letters."""
        if self._journal.room == 0:
            return self._refuse(deal)
        poll = self._polls[deal]
        self._journal.put((deal, sum([1 << site for site in poll.sites])))
        self._journal.force()
        self._polls.pop(deal)
        self._agreed[deal] = poll.sites
        return [(site, TELLER, "yes", deal) for site in poll.sites] + [self._telling(poll.hand, deal, 1)]

    def _refuse(self, deal):
        """Decides no for a deal that is asked round: the letters."""
        poll = self._polls.pop(deal)
        self._refused[deal] = True
        return [(site, TELLER, "no", deal) for site in poll.sites] + [self._telling(poll.hand, deal, 0)]

    def give_up(self, deal):
        """Decides no for a deal that is asked round: the letters that it sends."""
        need_number(deal, MOST_DEALS, "deal")
        sent = self._refuse(deal) if deal in self._polls else []
        self._show()
        return tuple(sent)

    def again(self):
        """Asks again who has not said held, and tells again who has not said done: the letters that it sends."""
        sent = []
        deals = sorted(list(self._polls) + list(self._agreed))
        for deal in deals:
            if deal in self._polls:
                sent = sent + self._holds(deal)
            else:
                left = [site for site in self._agreed[deal] if (deal, site) not in self._done]
                sent = sent + [(site, TELLER, "yes", deal) for site in left]
        return tuple(sent)

    def decided(self):
        """The deals that are decided, ascending."""
        return tuple(sorted(list(self._agreed) + list(self._refused)))

    def cut(self, lands, torn=()):
        """Pulls the plug: of what waits on the disk these writes land, those are torn."""
        self._plug.pull(lands, torn)
        self._stop()

    def fuse(self, many):
        """Lets the plug go out at this one of the next writes and flushes."""
        self.disk.fuse(many)

    def rise(self):
        """Comes up, if it is out; whether it came up."""
        if self.up:
            return False
        self._begin()
        return self.up


def yeses_of(disk):
    """The yeses that lie on the disk of a teller: pairs of a deal and the lot of its sites."""
    need_disk(disk)
    return tuple([told_yes(record) for record in meant(disk)[2]])
