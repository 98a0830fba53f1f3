"""What happens in a world, seen from outside, whatever is cut."""


class Chronicle:
    """The events of all things, in the order in which they came."""

    def __init__(self, many):
        self.many = many
        self.events = []
        self.dos = {}
        self._told = {}
        self._noting = {}
        self._readied = {}

    def tell(self, event):
        """Lets an event come."""
        self.events.append(event)
        self._told[event[:3]] = True

    def has(self, word, thing, deal):
        """Whether there is an event of this word of a deal at a thing."""
        return (word, thing, deal) in self._told

    def is_ended(self, thing, deal):
        """Whether a deal has a yes or a no at a thing."""
        return self.has("yes", thing, deal) or self.has("no", thing, deal)

    def give(self, thing, record, sites):
        """A do is given at a thing, told as the record of a spread log; these sites get a note of it."""
        deal, ask, answer = record[1:4]
        self.tell(("ask", thing, deal, ask))
        self.tell(("answer", thing, deal, answer))
        self.dos.setdefault((thing, deal), []).append(record)
        noting = self._noting.setdefault((thing, deal), {})
        for site in sites:
            noting[site] = True

    def hear_site(self, thing, site, event):
        """A site of a thing has an event of its own."""
        word, deal = event[:2]
        if word == "ready":
            self._hear_ready(thing, site, deal)
        elif word == "yes" and not self.is_ended(thing, deal):
            self.tell((word, thing, deal))
        elif word == "no" and self.has("ready", thing, deal) and not self.is_ended(thing, deal):
            self.tell((word, thing, deal))

    def _hear_ready(self, thing, site, deal):
        """A deal is ready at a site; at the thing it is if it is so at all sites that got a note."""
        readied = self._readied.setdefault((thing, deal), {})
        readied[site] = True
        noting = self._noting.get((thing, deal), {})
        if all([other in readied for other in noting]) and not self.is_ended(thing, deal):
            self.tell(("ready", thing, deal))

    def hear_no(self, deal):
        """The hand of a deal hears no, or gives it up."""
        for thing in range(self.many):
            if (thing, deal) in self.dos and not self.is_ended(thing, deal):
                self.tell(("no", thing, deal))

    def settled(self, deals):
        """The events, and behind them a yes of each of these deals wherever it was answered and has none."""
        left = [("yes", thing, deal) for deal in deals for thing in range(self.many) if (thing, deal) in self.dos]
        return self.events + [event for event in left if event not in self._told]
