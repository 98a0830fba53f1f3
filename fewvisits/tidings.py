"""The events of a site as they are seen from outside: no cut loses them."""


class Tidings:
    """All events that came, the fresh ones apart."""

    def __init__(self):
        self.fresh = []
        self.last = {}
        self.known = {}

    def tell(self, event):
        """Lets an event come."""
        self.fresh.append(event)
        self.last[event[1]] = event[0]
        self.known[event[:2]] = True

    def tell_no(self, deal):
        """Lets a no of a deal come, if the last event of it was a mark or a ready."""
        if self.last.get(deal) in ("mark", "ready"):
            self.tell(("no", deal))

    def tell_life(self, kept):
        """Lets the events come that a life which begins shows by what it kept."""
        for word, deal in kept.ends:
            if (word, deal) in self.known or self.last.get(deal) == "no":
                continue
            if word == "yes" or deal not in kept.refused:
                self.tell((word, deal))
        deals = sorted(list(self.last))
        for deal in deals:
            if not kept.is_ready(deal):
                self.tell_no(deal)

    def take_fresh(self):
        """The events since the last call."""
        found = tuple(self.fresh)
        self.fresh = []
        return found
