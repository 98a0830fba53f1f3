"""Worlds: hands, sites and the teller of a program, the letters between them, and the script of mishaps."""

from fewvisits.checks import need_number
from fewvisits.chronicles import Chronicle
from fewvisits.disks import Disk
from fewvisits.errors import BadScript, BadValue
from fewvisits.hands import Hand
from fewvisits.letters import FIRST_HAND, TELLER
from fewvisits.papers import fixed
from fewvisits.programs import Program
from fewvisits.scripts import is_step, need_script
from fewvisits.sites import Site
from fewvisits.tellers import Teller, yeses_of
from fewvisits.venues import Venue
from fewvisits.weaves import Weave, last_order

MOST_LETTERS = 100
BLOCKS = 256


class World:
    """A program as it is done: it changes by the steps of scripts."""

    def __init__(self, program):
        if not isinstance(program, Program):
            raise BadValue("program")
        self.program = program
        self._venues = [Venue(thing, told[0], told[1]) for thing, told in enumerate(program.things)]
        self._things = {site: venue.thing for venue in self._venues for site in venue.sites}
        self._chronicle = Chronicle(len(self._venues))
        self._nodes = {site: Site(site, Disk(BLOCKS)) for site in sorted(list(self._things))}
        self._teller = Teller(Disk(BLOCKS))
        self._nodes[TELLER] = self._teller
        self._hands = [Hand(number, program, self._venues, self._chronicle) for number in range(len(program.hands))]
        self._errands = [errand for hand in self._hands for errand in hand.errands]
        self._bag = []

    def step(self, told):
        """Does one step; whether it did anything."""
        if not is_step(told):
            raise BadScript("told")
        return self._do(fixed(told))

    def run(self, script):
        """Does all steps; how many of them did anything."""
        need_script(script)
        count = 0
        for step in fixed(script):
            if self._do(step):
                count = count + 1
        return count

    def _do(self, step):
        """Does a step, which is one; whether it did anything."""
        word = step[0]
        if word in ("visit", "decide", "leave", "send"):
            return step[1] < len(self._hands) and self._do_hand(self._hands[step[1]], step)
        if word in ("bring", "lose", "twice"):
            return len(self._bag) > 0 and self._do_letter(word, step[1] % len(self._bag))
        if word == "quit":
            return self._send_all(self._teller.give_up(step[1]))
        return step[1] in self._nodes and self._do_node(step)

    def _do_hand(self, hand, step):
        """Does what a hand is told; whether it did anything."""
        word = step[0]
        if word == "leave":
            return self._leave(hand)
        if word == "visit":
            return self._send_all(hand.visit(step[2]))
        if word == "decide":
            return self._send_all(hand.decide(step[2]))
        return self._send_all(hand.send())

    def _leave(self, hand):
        """Lets a hand leave; whether a try ended, be there whom to write to or not."""
        sent = hand.leave()
        if sent is None:
            return False
        self._send_all(sent)
        return True

    def _do_letter(self, word, at):
        """Brings, loses or doubles the letter that has so many ahead of it."""
        if word == "bring":
            self._bring(at)
        elif word == "lose":
            self._bag.pop(at)
        else:
            self._send_all([self._bag[at]])
        return True

    def _do_node(self, step):
        """Does what befalls a site or the teller; whether it did anything."""
        word, number = step[:2]
        node = self._nodes[number]
        if word == "cut":
            node.cut([write for write in range(node.disk.waiting()) if (step[2] >> write) & 1 == 1])
            return True
        if word == "fuse":
            if not node.up or step[2] == 0:
                return False
            node.fuse(step[2])
            return True
        if word == "rise":
            return self._rise(number)
        sent = node.again() if word == "again" else node.drop(step[2])
        self._hear(number)
        return self._send_all(sent)

    def _send_all(self, sent):
        """Puts letters into the bag, as far as there is room; whether there are any."""
        self._bag = (self._bag + list(sent))[:MOST_LETTERS]
        return len(sent) > 0

    def _rise(self, number):
        """Lets a node come up, if its plug is out; whether it came up."""
        came = self._nodes[number].rise()
        self._hear(number)
        return came

    def _hear(self, number):
        """Writes down what happened at a site."""
        if number != TELLER:
            for event in self._nodes[number].news():
                self._chronicle.hear_site(self._things[number], number, event)

    def _bring(self, at):
        """Brings the letter that has so many ahead of it."""
        letter = self._bag.pop(at)
        if letter[0] < FIRST_HAND:
            sent = self._nodes[letter[0]].take(letter)
            self._hear(letter[0])
        else:
            sent = self._hands[letter[0] - FIRST_HAND].take(letter)
        self._send_all(sent)

    def _bring_all(self):
        """Brings the first letter of the bag, until none lies there."""
        while self._bag:
            self._bring(0)

    def calm(self):
        """Does rounds without mishaps until all is heard of, or a round changes nothing; how many."""
        for node in self._nodes.values():
            node.disk.no_fuse()
        rounds = 0
        while not self._is_at_end():
            before = self._place()
            self._do_round()
            rounds = rounds + 1
            if self._place() == before:
                break
        return rounds

    def _sites(self):
        """The sites, ascending."""
        return [self._nodes[number] for number in self._nodes if number != TELLER]

    def _is_at_end(self):
        """Whether all nodes are up, each deal has been heard of, and none is at work or ready at a site."""
        if self.out() or any([errand.outcome is None for errand in self._errands]):
            return False
        return not any([site.working or site.holding for site in self._sites()])

    def _place(self):
        """How far all has come, as far as a round must change something of it."""
        locks = [None if site.lock is None else site.lock[0] for site in self._sites()]
        sites = [(site.up, site.working, site.holding) for site in self._sites()]
        teller = (self._teller.up, self._teller.asking, self._teller.decided())
        numbers = [errand.number for errand in self._errands]
        lives = [[hand.life_of(node) for node in self._nodes] for hand in self._hands]
        return (len(self._bag) > 0, self.heard(), numbers, locks, sites, teller, lives)

    def _do_round(self):
        """Lets all nodes come up, and all hands and nodes do what they can."""
        for number in self._nodes:
            self._rise(number)
        self._bring_all()
        for hand in self._hands:
            self._do_turn(hand)
        for number in self._nodes:
            self._send_all(self._nodes[number].again())
            self._bring_all()

    def _do_turn(self, hand):
        """Lets a hand send, and do a whole try of its step, if one is left and no note is under way."""
        self._send_all(hand.send())
        self._bring_all()
        errand = hand.at_step()
        if errand is None:
            return
        self._leave(hand)
        for site in self._venues[errand.thing_now()].sites:
            self._send_all(hand.visit(site))
            self._bring_all()
            if errand.outcome is not None:
                return
        given = len(errand.answers)
        self._send_all(hand.decide((1 << len(errand.counted)) - 1))
        if len(errand.answers) == given:
            self._leave(hand)
        self._bring_all()

    def weave(self):
        """The weave of what happened."""
        return self._weave_of(self._chronicle.events)

    def _weave_of(self, events):
        """The weave of events at the things."""
        return Weave([venue.spread.kind for venue in self._venues], events)

    def _deals_agreed(self):
        """The deals that have a yes on the disk of the teller, ascending."""
        return sorted([deal for deal, _ in yeses_of(self._teller.disk)])

    def settled(self):
        """The weave, and behind it the yeses that are under way."""
        return self._weave_of(self._chronicle.settled(self._deals_agreed()))

    def order(self):
        """The ended deals of the settled weave by their last readies."""
        return last_order(self.settled())

    def heard(self):
        """For each deal the answers that its hand got, and 1, 0 or None: yes, no, nothing yet."""
        return tuple([(tuple(errand.answers), errand.outcome) for errand in self._errands])

    def log(self, thing):
        """The spread log of the deals that have a yes on the disk of the teller, at a thing."""
        need_number(thing, len(self._venues), "thing")
        agreed = self._deals_agreed()
        left = {deal: list(self._chronicle.dos.get((thing, deal), ())) for deal in agreed}
        found = []
        for event in self._chronicle.settled(agreed):
            word, at, deal = event[:3]
            if at == thing and deal in left and word == "answer":
                found.append(left[deal].pop(0))
            elif at == thing and deal in left and word != "ask":
                found.append((word, deal))
        return tuple(found)

    def waits(self):
        """All pairs of deals of which the one waits for the other one now, ascending."""
        pairs = [(errand.deal, other) for hand in self._hands for errand in hand.errands
                 if errand.outcome is None for other in hand.waits_of(errand)]
        return tuple(sorted([pair for pair in pairs if self._errands[pair[1]].outcome is None]))

    def letters(self):
        """The bag."""
        return tuple(self._bag)

    def lives(self):
        """The lives of the sites, ascending, and of the teller."""
        return tuple([node.life for node in self._nodes.values()])

    def out(self):
        """The lot of the nodes whose plug is out."""
        return tuple([number for number, node in self._nodes.items() if not node.up])
