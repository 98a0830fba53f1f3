"""Errands: what a hand knows of one deal that it does."""


class Errand:
    """A deal and its steps, how far they are done, and what the try that is under way has come to."""

    def __init__(self, deal, steps):
        self.deal = deal
        self.steps = steps
        self.outcome = None
        self.answers = []
        self.number = 0
        self.attempt = 0
        self.counted = {}
        self.awaited = None
        self.latest = None
        self.visited = {}
        self.borne = {}
        self.under_way = {}
        self.notes = {}
        self.noted_at = {}
        self.known = {}
        self.own = {}
        self.ending = None
        self.barring = ()

    def is_done(self):
        """Whether no step is left."""
        return self.number == len(self.steps)

    def thing_now(self):
        """The thing of the step."""
        return self.steps[self.number][0]

    def place_now(self):
        """The number of the step, and the try."""
        return (self.number, self.attempt)

    def begin(self, number, attempt):
        """Begins a try of a step."""
        self.number = number
        self.attempt = attempt
        self.counted = {}
        self.awaited = None
        self.latest = None

    def sites_in_try(self):
        """The counted sites and the awaited one, ascending."""
        return list(self.counted) + ([] if self.awaited is None else [self.awaited])

    def is_in_try(self, site, place):
        """Whether this is the number and the try that is under way, and the site is counted or awaited in it."""
        return place == self.place_now() and site in self.sites_in_try()

    def got_note(self, site):
        """Whether a site got a note of the deal."""
        return site in self.notes

    def count_note(self, site):
        """Counts a note of the step to a site."""
        self.notes[site] = self.notes.get(site, 0) + 1
        self.noted_at[(site, self.number)] = True

    def end_parts(self):
        """The parts of the end of the deal; all notes to a site have the life of the last visit there."""
        return tuple([(site, self.notes[site], self.borne[site]) for site in sorted(list(self.notes))])
