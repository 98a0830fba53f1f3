"""Hands: each does its deals one after another, step by step, try by try."""

from fewvisits.errands import Errand
from fewvisits.letters import FIRST_HAND, TELLER
from fewvisits.spreads import numbers_of
from fewvisits.venues import Showing, all_seen, answers_in_view, counts_of, in_order, is_clear, jarring_deals

# Where the letters to a hand tell a life, behind their deal.
LIFE_PLACES = {"shown": 2, "noted": 1, "still": 2, "gone": 0, "told": 1}


class Hand:
    """A hand of a program: its errands, and the greatest life that it heard of each node."""

    def __init__(self, number, program, venues, chronicle):
        self.node = FIRST_HAND + number
        self.venues = venues
        self.chronicle = chronicle
        self.pairs = {pair: True for pair in program.pairs}
        self.errands = [Errand(deal, steps) for deal, steps in enumerate(program.deals)
                        if program.owners[deal] == number]
        self.turn = 0
        self.greatest = {}

    def present(self):
        """The errand that it does now, None behind the last one."""
        return self.errands[self.turn] if self.turn < len(self.errands) else None

    def at_step(self):
        """The errand that it does now, None unless a step of it is left and no note is under way."""
        errand = self.present()
        return None if errand is None or errand.is_done() or errand.under_way else errand

    def present_of(self, deal):
        """The errand that it does now, None unless it is of this deal."""
        errand = self.present()
        return None if errand is None or errand.deal != deal else errand

    def life_of(self, node):
        """The greatest life of a node that it heard of."""
        return self.greatest.get(node, 1)

    def letter(self, errand, site, word, items):
        """A letter of a try of the errand to a site."""
        return (site, self.node, word, errand.deal, errand.number, errand.attempt) + items

    def visit(self, site):
        """Visits a site, if it can: the letters that it sends."""
        errand = self.at_step()
        if errand is None or site not in self.venues[errand.thing_now()].sites:
            return []
        if errand.latest is not None and site <= errand.latest:
            return []
        errand.latest = site
        errand.awaited = site
        errand.visited[site] = True
        if not errand.got_note(site):
            errand.borne[site] = self.life_of(site)
        return [self.letter(errand, site, "visit", (errand.borne[site],))]

    def leave(self):
        """Leaves, if it can: the letters that it sends; None if no try ended."""
        errand = self.at_step()
        if errand is None or errand.latest is None:
            return None
        sent = [self.letter(errand, site, "leave", ((),)) for site in errand.sites_in_try()]
        errand.begin(errand.number, errand.attempt + 1)
        return sent

    def send(self):
        """Sends once more what is not answered: the letters."""
        errand = self.present()
        if errand is None:
            return []
        if errand.under_way:
            return list(errand.under_way.values())
        if errand.awaited is not None:
            return [self.letter(errand, errand.awaited, "visit", (errand.borne[errand.awaited],))]
        if not errand.is_done():
            return []
        if errand.ending is None:
            errand.ending = (TELLER, self.node, "end", errand.deal, self.life_of(TELLER), errand.end_parts())
        return [errand.ending]

    def decide(self, bits):
        """Decides, if it can; bits tell the sites to be noted at: the letters, none if it did nothing."""
        errand = self.at_step()
        if errand is None or errand.awaited is not None or not errand.counted:
            return []
        thing, ask = errand.steps[errand.number]
        venue = self.venues[thing]
        showings = list(errand.counted.values())
        seen = all_seen(errand.known.get(thing, ()), showings)
        answers = answers_in_view(venue, seen, errand.own.get(thing, ()), ask)
        clear = [answer for answer in answers if is_clear(venue, (ask, answer), showings)]
        near = [answer for answer in clear if numbers_of(venue.spread, (ask, answer))[0] <= len(showings)]
        if near:
            return self.give(errand, venue, (ask, near[0]), seen, bits)
        if clear or not answers:
            return []
        return self.bar(errand, venue, (ask, answers[0]))

    def give(self, errand, venue, operation, seen, bits):
        """Gives an answer: the notes."""
        own = errand.own.get(venue.thing, ())
        dates = [showing.date for showing in errand.counted.values()] + [do[4] for do in seen + own]
        do = (errand.deal, errand.number) + operation + (max(dates) + 1,)
        sites = list(errand.counted)
        told = [site for place, site in enumerate(sites) if (bits >> place) & 1 == 1]
        noted = told if len(told) >= numbers_of(venue.spread, operation)[1] else sites
        rows = in_order(seen + own)
        for site in sites:
            kept = (1, rows) if site in noted else (0, ())
            errand.under_way[site] = self.letter(errand, site, "note", (errand.borne[site],) + do[2:] + kept)
            errand.count_note(site)
        errand.answers.append(operation[1])
        errand.known[venue.thing] = seen
        errand.own[venue.thing] = own + (do,)
        errand.barring = ()
        record = ("do", errand.deal) + do[2:] + (venue.numbered(sites), venue.numbered(noted), counts_of(seen))
        self.chronicle.give(venue.thing, record, sites)
        return list(errand.under_way.values())

    def bar(self, errand, venue, operation):
        """Leaves a try that is barred: the letters, which push whom the deal may not wait for."""
        barring = {}
        sent = []
        for site, showing in errand.counted.items():
            others = jarring_deals(venue, operation, showing)
            for other in others:
                barring[other] = True
            pushed = tuple([other for other in others if (errand.deal, other) not in self.pairs])
            sent.append(self.letter(errand, site, "leave", (pushed,)))
        errand.barring = tuple(sorted(list(barring)))
        errand.begin(errand.number, errand.attempt + 1)
        return sent

    def waits_of(self, errand):
        """The deals that an errand's deal waits for, be they heard of or not."""
        return [other for other in errand.barring if (errand.deal, other) in self.pairs]

    def take(self, letter):
        """Takes a letter: the letters that it sends."""
        node, word, deal = letter[1:4]
        items = letter[4:]
        self.greatest[node] = max(self.life_of(node), items[LIFE_PLACES[word]])
        if word == "shown":
            return self.take_shown(node, deal, items[:2], Showing(items[3], items[4], items[5]))
        if word == "noted":
            return self.take_noted(node, deal, items[0])
        if word == "still":
            return self.take_still(node, deal, items[:2])
        if word == "gone":
            return self.take_gone(node, deal, items[0])
        return self.take_told(deal, items[0])

    def take_shown(self, site, deal, place, showing):
        """Counts the awaited site; leaves another one, which may be locked by an earlier try."""
        errand = self.present_of(deal)
        if errand is not None:
            if site == errand.awaited and place == errand.place_now():
                errand.awaited = None
                errand.counted[site] = showing
                return []
            if errand.is_in_try(site, place) or (site, place[0]) in errand.noted_at:
                return []
        return [(site, self.node, "leave", deal, place[0], place[1], ())]

    def take_noted(self, site, deal, number):
        """Does a step when all sites have said noted to the note."""
        errand = self.present_of(deal)
        if errand is not None and number == errand.number and site in errand.under_way:
            errand.under_way.pop(site)
            if not errand.under_way:
                errand.begin(errand.number + 1, 0)
        return []

    def take_still(self, site, deal, place):
        """Tells a site at which a deal is at work what it need not keep."""
        leave = [(site, self.node, "leave", deal, place[0], place[1], ())]
        for errand in self.errands:
            if errand.deal == deal and errand.outcome is not None:
                return leave if errand.outcome == 1 else [(site, self.node, "no", deal)]
        errand = self.present_of(deal)
        if errand is None or errand.is_in_try(site, place) or (site, place[0]) in errand.noted_at:
            return []
        return leave

    def take_gone(self, site, deal, life):
        """Awaits a site no more that began another life, or gives the deal up."""
        errand = self.present_of(deal)
        if errand is None or errand.ending is not None:
            return []
        if site == errand.awaited and not errand.got_note(site) and life != errand.borne[site]:
            errand.awaited = None
            return []
        if site not in errand.sites_in_try() and not errand.got_note(site):
            return []
        self.hear(errand, 0)
        others = [other for other in sorted(list(errand.visited)) if other != site]
        return [(other, self.node, "no", deal) for other in others]

    def take_told(self, deal, told):
        """Hears yes or no of a deal whose end was sent."""
        errand = self.present_of(deal)
        if errand is not None and errand.ending is not None:
            self.hear(errand, told)
        return []

    def hear(self, errand, told):
        """Hears yes or no of the deal that it does now, and goes on to the next one."""
        errand.outcome = told
        self.turn = self.turn + 1
        if told == 0:
            self.chronicle.hear_no(errand.deal)
