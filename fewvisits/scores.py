"""Scripts in which each letter is brought at once."""


class Score:
    """The steps of a script, as they are written."""

    def __init__(self):
        self.told = []

    def bring(self, times):
        """Brings the first letter, so many times."""
        for _ in range(times):
            self.told.append(("bring", 0))

    def see(self, hand, sites):
        """Visits sites, ascending, each of which shows what it knows."""
        for site in sites:
            self.told.append(("visit", hand, site))
            self.bring(2)

    def do(self, hand, sites, noted):
        """Does a step at sites, noted at some of them."""
        self.see(hand, sites)
        self.told.append(("decide", hand, sum([1 << place for place, site in enumerate(sites) if site in noted])))
        self.bring(2 * len(sites))

    def end(self, hand, many):
        """Ends a deal of which so many sites have a note."""
        self.told.append(("send", hand))
        self.bring(4 * many + 2)
