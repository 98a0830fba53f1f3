"""Worlds told plainly: hands by the list of all that happened to each of their deals; only for tests."""

from tests.naive import leads_to
from tests.naive_pairs import beside
from tests.naive_sites import PlainSite, PlainTeller
from tests.naive_spreads import numbers


class PlainHand:
    """A hand: what happened to each of its deals is a list; all that it knows is told by these lists."""

    def __init__(self, world, number):
        self.world, self.node = world, 7 + number
        self.deals = [deal for deal, owner in enumerate(world.program.owners) if owner == number]
        self.past = {deal: [] for deal in self.deals}
        self.heard = {}
        self.told_lives = []

    # What it knows.

    def deal(self):
        left = [deal for deal in self.deals if deal not in self.heard]
        return left[0] if left else None

    def all(self, deal, *words):
        return [deed for deed in self.past[deal] if deed[0] in words]

    def steps_done(self, deal):
        return len(self.all(deal, "done"))

    def has_steps(self, deal):
        return self.steps_done(deal) < len(self.world.program.deals[deal])

    def place(self, deal):
        """The number of the step, and the try."""
        number = self.steps_done(deal)
        return number, len([deed for deed in self.all(deal, "over") if deed[1] == number])

    def in_try(self, deal):
        """What happened in the try that is under way."""
        return [deed for deed in self.all(deal, "visit", "counted", "lost") if deed[1] == self.place(deal)]

    def counted(self, deal):
        return {deed[2]: deed[3] for deed in self.in_try(deal) if deed[0] == "counted"}

    def awaited(self, deal):
        visits = [deed[2] for deed in self.in_try(deal) if deed[0] == "visit"]
        done = [deed[2] for deed in self.in_try(deal) if deed[0] != "visit"]
        return visits[-1] if visits and visits[-1] not in done else None

    def notes(self, deal, site=None):
        """All notes of the deal, or those to a site."""
        found = [letter for deed in self.all(deal, "given") for letter in deed[2]]
        return [letter for letter in found if site in (None, letter[0])]

    def not_noted(self, deal):
        """The notes of the step that are not answered."""
        number = self.steps_done(deal)
        said = [deed[2] for deed in self.all(deal, "noted") if deed[1] == number]
        return [letter for letter in self.notes(deal) if letter[4] == number and letter[0] not in said]

    def life(self, node):
        return max([1] + [life for other, life in self.told_lives if other == node])

    def last_life(self, deal, site):
        """The life that the last visit to a site bore."""
        return [deed[3] for deed in self.all(deal, "visit") if deed[2] == site][-1]

    def may_step(self, deal):
        return deal is not None and self.has_steps(deal) and not self.not_noted(deal)

    def thing(self, deal):
        return self.world.program.deals[deal][self.steps_done(deal)][0]

    def sites_of_step(self, deal):
        return self.world.program.things[self.thing(deal)][1]

    def knows(self, deal, thing):
        """The dos of ended deals that the deal knows of a thing."""
        found = [deed for deed in self.all(deal, "given") if deed[3] == thing]
        return list(found[-1][4]) if found else []

    def own(self, deal, thing):
        return [deed[5] for deed in self.all(deal, "given") if deed[3] == thing]

    # What it does.

    def letter(self, deal, site, word, *items):
        return (site, self.node, word, deal) + self.place(deal) + items

    def visit(self, site):
        deal = self.deal()
        if not self.may_step(deal) or site not in self.sites_of_step(deal):
            return []
        if any(deed[0] == "visit" and deed[2] >= site for deed in self.in_try(deal)):
            return []
        ahead = self.notes(deal, site)
        life = ahead[-1][6] if ahead else self.life(site)
        self.past[deal].append(("visit", self.place(deal), site, life))
        return [self.letter(deal, site, "visit", life)]

    def leave(self):
        deal = self.deal()
        if not self.may_step(deal) or not [deed for deed in self.in_try(deal) if deed[0] == "visit"]:
            return None
        sites = sorted(self.counted(deal))
        if self.awaited(deal) is not None:
            sites.append(self.awaited(deal))
        sent = [self.letter(deal, site, "leave", ()) for site in sites]
        self.past[deal].append(("over", self.steps_done(deal)))
        return sent

    def send(self):
        deal = self.deal()
        if deal is None:
            return []
        if self.not_noted(deal):
            return self.not_noted(deal)
        if self.has_steps(deal):
            site = self.awaited(deal)
            return [] if site is None else [self.letter(deal, site, "visit", self.last_life(deal, site))]
        if not self.all(deal, "end"):
            sites = sorted({letter[0] for letter in self.notes(deal)})
            parts = tuple((site, len(self.notes(deal, site)), self.notes(deal, site)[0][6]) for site in sites)
            self.past[deal].append(("end", (6, self.node, "end", deal, self.life(6), parts)))
        return [self.all(deal, "end")[0][1]]

    def decide(self, bits):
        deal = self.deal()
        if not self.may_step(deal) or self.awaited(deal) is not None or not self.counted(deal):
            return []
        thing, ask = self.world.program.deals[deal][self.steps_done(deal)]
        spread = self.world.program.things[thing][0]
        shown = self.counted(deal)
        sees = {do[:2]: do for do in self.knows(deal, thing)}
        for letter in shown.values():
            sees.update({do[:2]: do for do in letter[8]})
        sees = sorted(sees.values(), key=lambda do: (do[4], do[0], do[1]))
        view = leads_to(spread.kind, spread.kind.first, [do[2:4] for do in sees + self.own(deal, thing)])
        answers = [row[2] for row in spread.kind.rows if row[0] == view and row[1] == ask]
        marks = [mark for letter in shown.values() for mark in letter[9]]
        clear = [answer for answer in answers if not any(self.bars(spread, (ask, answer), mark) for mark in marks)]
        near = [answer for answer in clear if len(shown) >= numbers(spread, (ask, answer))[0]]
        if near:
            return self.give(deal, thing, (ask, near[0]), sees, shown, bits)
        if clear or not answers:
            return []
        sent, barred = [], set()
        for site in sorted(shown):
            jarring = [mark[0] for mark in shown[site][9] if not mark[1] and not beside(spread.kind, (ask, answers[0]), mark[2:])]
            barred |= set(jarring)
            others = sorted({other for other in jarring if (deal, other) not in self.world.program.pairs})
            sent.append(self.letter(deal, site, "leave", tuple(others)))
        self.past[deal] += [("barred", barred), ("over", self.steps_done(deal))]
        return sent

    def bars(self, spread, operation, mark):
        return mark[1] == 1 or not beside(spread.kind, operation, mark[2:])

    def give(self, deal, thing, operation, sees, shown, bits):
        spread, places = self.world.program.things[thing]
        own = self.own(deal, thing)
        date = 1 + max([letter[7] for letter in shown.values()] + [do[4] for do in sees + own])
        do = (deal, self.steps_done(deal)) + operation + (date,)
        told = [site for place, site in enumerate(sorted(shown)) if bits // 2 ** place % 2]
        noted = told if len(told) >= numbers(spread, operation)[1] else sorted(shown)
        rows = tuple(sorted(sees + own, key=lambda row: (row[4], row[0], row[1])))
        notes = [self.letter(deal, site, "note", self.last_life(deal, site), *do[2:], *((1, rows) if site in noted else (0, ())))
                 for site in sorted(shown)]
        self.past[deal].append(("given", do[1], notes, thing, tuple(sees), do))
        seen = sorted({row[0] for row in sees})
        record = ("do", deal) + operation + (date, tuple(places.index(site) for site in sorted(shown)),
                                             tuple(places.index(site) for site in noted),
                                             tuple((other, len([row for row in sees if row[0] == other])) for other in seen))
        self.world.events += [("ask", thing, deal, operation[0]), ("answer", thing, deal, operation[1])]
        self.world.dos.append((thing, record, sorted(shown)))
        return notes

    def waits(self, deal):
        """The deals that a deal waits for."""
        last = [deed for deed in self.all(deal, "barred", "given")][-1:]
        if deal in self.heard or not last or last[0][0] == "given":
            return []
        return sorted(other for other in last[0][1] if (deal, other) in self.world.program.pairs and not self.world.is_heard(other))

    def take(self, letter):
        places = {"shown": 6, "noted": 5, "still": 6, "gone": 4, "told": 5}
        self.told_lives.append((letter[1], letter[places[letter[2]]]))
        return getattr(self, "take_" + letter[2])(letter[1], letter[3], letter)

    def take_shown(self, site, deal, letter):
        place = letter[4:6]
        if deal == self.deal():
            if self.has_steps(deal) and site == self.awaited(deal) and place == self.place(deal):
                self.past[deal].append(("counted", place, site, letter))
                return []
            if site in self.counted(deal) and place == self.place(deal):
                return []
            if [note for note in self.notes(deal, site) if note[4] == place[0]]:
                return []
        return [(site, self.node, "leave", deal) + place + ((),)]

    def take_noted(self, site, deal, letter):
        if deal == self.deal() and site in [note[0] for note in self.not_noted(deal) if note[4] == letter[4]]:
            self.past[deal].append(("noted", letter[4], site))
            if not self.not_noted(deal):
                self.past[deal].append(("done",))
        return []

    def take_gone(self, site, deal, letter):
        if deal != self.deal() or self.all(deal, "end"):
            return []
        if site == self.awaited(deal) and not self.notes(deal, site) and letter[4] != self.last_life(deal, site):
            self.past[deal].append(("lost", self.place(deal), site))
            return []
        if site in self.counted(deal) or site == self.awaited(deal) or self.notes(deal, site):
            self.hear(deal, 0)
            return [(other, self.node, "no", deal) for other in sorted({deed[2] for deed in self.all(deal, "visit")}) if other != site]
        return []

    def take_told(self, _, deal, letter):
        if deal == self.deal() and self.all(deal, "end"):
            self.hear(deal, letter[4])
        return []

    def take_still(self, site, deal, letter):
        leave = [(site, self.node, "leave", deal) + letter[4:6] + ((),)]
        if deal in self.heard:
            return leave if self.heard[deal] else [(site, self.node, "no", deal)]
        if deal != self.deal():
            return []
        here = letter[4:6] == self.place(deal) and (site in self.counted(deal) or site == self.awaited(deal))
        return [] if here or [note for note in self.notes(deal, site) if note[4] == letter[4]] else leave

    def hear(self, deal, told):
        self.heard[deal] = told
        if not told:
            for thing in range(len(self.world.program.things)):
                if self.world.answered(thing, deal) and not self.world.over(thing, deal):
                    self.world.events.append(("no", thing, deal))


class PlainWorld:
    """A world whose nodes and hands are told plainly."""

    def __init__(self, program):
        self.program, self.bag, self.events, self.dos, self.shown = program, [], [], [], []
        self.thing_of = {site: thing for thing, (_, sites) in enumerate(program.things) for site in sites}
        self.nodes = {site: PlainSite(site, 256) for site in sorted(self.thing_of)}
        self.nodes[6] = PlainTeller(6, 256)
        self.hands = [PlainHand(self, number) for number in range(len(program.hands))]

    def is_heard(self, deal):
        return deal in self.hands[self.program.owners[deal]].heard

    def answered(self, thing, deal):
        return [record for place, record, _ in self.dos if place == thing and record[1] == deal]

    def over(self, thing, deal):
        return ("yes", thing, deal) in self.events or ("no", thing, deal) in self.events

    def put(self, letters):
        for letter in letters or []:
            if len(self.bag) < 100:
                self.bag.append(letter)
        return bool(letters)

    def step(self, step):
        return bool(getattr(self, "do_" + step[0])(*step[1:]))

    def hand(self, number):
        return self.hands[number] if number < len(self.hands) else None

    def do_visit(self, hand, site):
        return self.hand(hand) and self.put(self.hand(hand).visit(site))

    def do_decide(self, hand, bits):
        return self.hand(hand) and self.put(self.hand(hand).decide(bits))

    def do_send(self, hand):
        return self.hand(hand) and self.put(self.hand(hand).send())

    def do_leave(self, hand):
        sent = self.hand(hand).leave() if self.hand(hand) else None
        self.put(sent)
        return sent is not None

    def do_bring(self, at):
        if not self.bag:
            return False
        letter = self.bag.pop(at % len(self.bag))
        node = self.nodes[letter[0]] if letter[0] < 7 else self.hands[letter[0] - 7]
        sent = node.take(letter)
        self.hear(letter[0])
        self.put(sent)
        return True

    def do_lose(self, at):
        return bool(self.bag) and self.bag.pop(at % len(self.bag)) is not None

    def do_twice(self, at):
        return bool(self.bag) and self.put([self.bag[at % len(self.bag)]])

    def do_cut(self, node, bits):
        if node not in self.nodes:
            return False
        self.nodes[node].cut(tuple(k for k in range(self.nodes[node].disk.waiting()) if bits // 2 ** k % 2), ())
        return True

    def do_fuse(self, node, many):
        if node not in self.nodes or not self.nodes[node].up or not many:
            return False
        self.nodes[node].disk.fuse = many
        return True

    def do_rise(self, node):
        rose = node in self.nodes and self.nodes[node].rise()
        self.hear(node)
        return rose

    def do_drop(self, site, deal):
        sent = self.nodes[site].drop(deal) if site in self.nodes else ()
        self.hear(site)
        return self.put(sent)

    def do_again(self, node):
        return node in self.nodes and self.put(self.nodes[node].again())

    def do_quit(self, deal):
        return self.put(self.nodes[6].give_up(deal))

    def hear(self, node):
        """Writes down what happened at a site."""
        if node not in self.thing_of:
            return
        thing = self.thing_of[node]
        for event in self.nodes[node].news():
            word, deal = event[:2]
            if word == "ready":
                self.shown.append((node, deal))
                got = {site for place, record, sites in self.dos if place == thing and record[1] == deal for site in sites}
                if got and all((site, deal) in self.shown for site in got) and not self.over(thing, deal):
                    self.events.append(("ready", thing, deal))
            if word == "yes" and not self.over(thing, deal):
                self.events.append(("yes", thing, deal))
            if word == "no" and ("ready", thing, deal) in self.events and not self.over(thing, deal):
                self.events.append(("no", thing, deal))

    def agreed(self):
        from tests.test_tellers import yeses_on
        return sorted(deal for deal, _ in yeses_on(self.nodes[6].disk.kept()))

    def settled(self):
        return self.events + [("yes", thing, deal) for deal in self.agreed() for thing in range(len(self.program.things))
                              if self.answered(thing, deal) and ("yes", thing, deal) not in self.events]

    def heard(self):
        found = []
        for deal, owner in enumerate(self.program.owners):
            answers = tuple(event[3] for event in self.events if event[0] == "answer" and event[2] == deal)
            found.append((answers, self.hands[owner].heard.get(deal)))
        return tuple(found)

    def waits(self):
        return tuple((deal, other) for deal, owner in enumerate(self.program.owners) for other in self.hands[owner].waits(deal))

    def log(self, thing):
        found = []
        for event in self.settled():
            if event[1] == thing and event[2] in self.agreed():
                mine = [record for place, record, _ in self.dos if place == thing and record[1] == event[2]]
                done = len([record for record in found if record[0] == "do" and record[1] == event[2]])
                if event[0] == "answer":
                    found.append(mine[done])
                elif event[0] != "ask":
                    found.append((event[0], event[2]))
        return tuple(found)

    def lives(self):
        return tuple(node.life for node in self.nodes.values())

    def out(self):
        return tuple(number for number, node in self.nodes.items() if not node.up)

    def all_told(self):
        return (tuple(self.bag), tuple(self.events), tuple(self.settled()), self.heard(), self.waits(), self.lives(), self.out(),
                tuple(self.log(thing) for thing in range(len(self.program.things))))

    # Calm.

    def bring_all(self):
        while self.bag:
            self.do_bring(0)

    def at_end(self):
        sites = [node for number, node in self.nodes.items() if number < 6]
        return not self.out() and all(told is not None for _, told in self.heard()) and not any(
            site.works(deal) or site.is_ready(deal) for site in sites for deal in range(12))

    def standing(self):
        sites = [(node.shows()[4:6], node.shows()[2] and node.shows()[2][0]) for number, node in self.nodes.items() if number < 6]
        decided = [deal for deal in range(12) if self.nodes[6].up and (self.nodes[6].yes(deal) is not None or any(
            deed[:2] == ("decided", deal) for deed in self.nodes[6].happened))]
        lives = [hand.life(node) for hand in self.hands for node in self.nodes]
        steps = [hand.steps_done(deal) for hand in self.hands for deal in hand.deals]
        return (bool(self.bag), self.heard(), steps, self.out(), sites, self.nodes[6].asking(), decided, lives)

    def calm(self):
        for node in self.nodes.values():
            node.disk.fuse = None
        rounds = 0
        while not self.at_end():
            ahead = self.standing()
            self.round()
            rounds += 1
            if ahead == self.standing():
                break
        return rounds

    def round(self):
        for node in self.nodes:
            self.do_rise(node)
        self.bring_all()
        for hand in self.hands:
            self.put(hand.send())
            self.bring_all()
            deal = hand.deal()
            if hand.may_step(deal):
                self.put(hand.leave())
                for site in hand.sites_of_step(deal):
                    self.put(hand.visit(site))
                    self.bring_all()
                    if deal in hand.heard:
                        break
                else:
                    given = hand.all(deal, "given")
                    self.put(hand.decide(2 ** 10 - 1))
                    if hand.all(deal, "given") == given:
                        self.put(hand.leave())
                    self.bring_all()
        for node in self.nodes:
            self.do_again(node)
            self.bring_all()
