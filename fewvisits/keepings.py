"""What sites put into their journals, and what it tells the life that begins there."""

OWN = 0
BROUGHT = 1
READY = 2
YES = 3
NO = 4
CODES = 8


def do_record(do, code):
    """A do as a record."""
    return (CODES * do[0] + code,) + do[1:]


def ready_record(deal, date):
    """A ready as a record."""
    return (CODES * deal + READY, date)


def end_record(deal, code):
    """A yes or a no as a record."""
    return (CODES * deal + code,)


class Kept:
    """What records tell: rows, readies, yeses and noes, each in their order."""

    def __init__(self, told):
        self.readied = []
        self.agreed = []
        self.refused = []
        self.ends = []
        self.rows = {}
        self.latest = 0
        self._put_ends(told)
        self._put_dos(told)

    def _put_ends(self, told):
        """Puts all readies, yeses and noes."""
        for record in told:
            deal, code = record[0] // CODES, record[0] % CODES
            if code == READY:
                self.readied.append(deal)
                self.latest = max(self.latest, record[1])
                self.ends.append(("ready", deal))
            elif code == YES:
                self.agreed.append(deal)
                self.ends.append(("yes", deal))
            elif code == NO:
                self.refused.append(deal)

    def _put_dos(self, told):
        """Puts the dos that count, by deal and number, each with whether it was brought."""
        for record in told:
            deal, code = record[0] // CODES, record[0] % CODES
            if code == BROUGHT or (code == OWN and self.is_sure_of(deal)):
                do = (deal,) + record[1:]
                # Of two of one deal and number the later one counts, at its place.
                self.rows.pop(do[:2], None)
                self.rows[do[:2]] = (do, code == BROUGHT)
        # A do that a later one took the place of is no row any more, so its date does not count.
        self.latest = max([self.latest] + [do[4] for do, _ in self.rows.values()])

    def is_sure_of(self, deal):
        """Whether a deal has a yes, or a ready and no no."""
        return deal in self.agreed or (deal in self.readied and deal not in self.refused)

    def is_ready(self, deal):
        """Whether a deal has a ready, and neither a yes nor a no."""
        return self.is_sure_of(deal) and deal not in self.agreed
