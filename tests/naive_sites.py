"""Sites and the teller told plainly: by the list of all that happened to them; only for tests."""

from tests.naive_disks import landed, meaning, reads


class Blown(Exception):
    """The plug went out."""


class PlainDisk:
    """All that was done to a disk, and its fuse."""

    def __init__(self, many):
        self.many, self.done, self.fuse = many, [], None

    def do(self, deed):
        if deed[0] == "cut":
            self.fuse = None
        elif self.fuse is not None:
            if self.fuse == 1:
                raise Blown()
            self.fuse -= 1
        self.done.append(deed)

    def waiting(self):
        return len(landed(self.done, self.many)[1])

    def kept(self):
        return tuple(landed(self.done, self.many)[0])

    def look(self):
        return [reads(self.done, self.many, at) for at in range(self.many)]


class PlainNode:
    """A node with a journal that is never swept."""

    def __init__(self, node, many):
        self.node, self.disk, self.life, self.up, self.broken = node, PlainDisk(many), 0, False, False
        self.rise()

    def rise(self):
        if self.up:
            return False
        if self.broken:
            self.cut((), ())
        blocks = self.disk.look()
        version = max([0] + [blocks[at][0] for at in (0, 1) if blocks[at]])
        life, _, records = meaning(blocks)
        try:
            self.disk.do(("write", (version + 1) % 2, (version + 1, life + 1, 0, 0, 0)))
            self.disk.do(("flush",))
        except Blown:
            self.broken = True
            return False
        self.life, self.up, self.records = life + 1, True, list(records)
        self.begin()
        return True

    def cut(self, lands, torn):
        self.disk.do(("cut", lands, torn))
        self.broken = self.up = False

    def put(self, *record):
        self.disk.do(("write", 2 + len(self.records), (0, self.life, len(self.records)) + record))
        self.records.append(record)

    def room(self):
        return self.disk.many // 2 - 1 - len(self.records)

    def take(self, letter):
        if not self.up:
            return ()
        try:
            return tuple(getattr(self, "take_" + letter[2])(*letter[1:2], *letter[3:]))
        except Blown:
            self.broken, self.up = True, False
            return ()


def kept_rows(records):
    """The rows that a life has which begins with these records, in order, each with whether it was brought."""
    words = {(record[0] // 8, record[0] % 8) for record in records}
    found = []
    for record in records:
        deal, code = divmod(record[0], 8)
        sure = (deal, 3) in words or (deal, 2) in words and (deal, 4) not in words
        if code == 1 or code == 0 and sure:
            found = [(do, brought) for do, brought in found if do[:2] != (deal, record[1])]
            found.append(((deal,) + record[1:], code == 1))
    return found


class PlainSite(PlainNode):
    """A site: what happened in this life is a list; all that it has is told by this list."""

    def __init__(self, node, many):
        self.all_events, self.fresh = [], []
        PlainNode.__init__(self, node, many)

    def event(self, *event):
        self.all_events.append(event)
        self.fresh.append(event)

    def last_event(self, deal):
        return ([None] + [event[0] for event in self.all_events if event[1] == deal])[-1]

    def news(self):
        found, self.fresh = tuple(self.fresh), []
        return found

    def begin(self):
        self.happened = [("row",) + row for row in kept_rows(self.records)]
        self.at_first = max([0] + [row[0][4] for row in kept_rows(self.records)]
                            + [record[1] for record in self.records if record[0] % 8 == 2])
        self.locked = None
        for record in self.records:
            deal, code = divmod(record[0], 8)
            word = {2: "ready", 3: "yes"}.get(code)
            if word == "ready" and (8 * deal + 4,) in self.records:
                continue
            if word and (word, deal) not in self.all_events and self.last_event(deal) != "no":
                self.event(word, deal)
        for deal in range(12):
            if not self.is_ready(deal) and self.last_event(deal) in ("mark", "ready"):
                self.event("no", deal)

    # What it has now.

    def has(self, code, deal):
        return any(record[0] == 8 * deal + code for record in self.records)

    def is_ready(self, deal):
        return self.has(2, deal) and not self.has(3, deal) and not self.has(4, deal)

    def is_ended(self, deal):
        return self.has(3, deal)

    def is_closed(self, deal):
        return self.has(4, deal) or ("off", deal) in self.happened

    def rows(self):
        found = []
        for deed in self.happened:
            if deed[0] == "row":
                found.append(deed[1:])
            elif deed[0] == "off":
                found = [(do, brought) for do, brought in found if do[0] != deed[1] or brought]
        return found

    def marked(self):
        found = []
        for deed in self.happened:
            if deed[0] == "mark":
                found.append(deed[1])
            elif deed[0] == "off":
                found = [mark for mark in found if mark[0] != deed[1]]
        return found

    def date(self):
        return max([self.at_first] + [deed[2] for deed in self.happened if deed[0] == "mark"])

    def hand(self, deal):
        return [deed[2] for deed in self.happened if deed[0] == "hand" and deed[1] == deal][-1]

    def left(self, deal):
        return [deed[2] for deed in self.happened if deed[0] == "left" and deed[1] == deal]

    def works(self, deal):
        if self.is_ready(deal) or self.is_ended(deal):
            return False
        return any(mark[0] == deal for mark in self.marked()) or self.locked is not None and self.locked[0] == deal

    def all_of(self, asked):
        return tuple(deal for deal in range(12) if asked(deal))

    def free(self):
        return self.room() - len(self.all_of(self.is_ready))

    def shows(self):
        """All that a site tells of itself."""
        if not self.up:
            return ((), (), None, 0, (), (), ())
        lying = tuple(do for do, _ in self.rows())
        return (lying, tuple(self.marked()), self.locked, self.date(), self.all_of(self.works),
                self.all_of(self.is_ready), self.all_of(self.is_ended))

    # What it does.

    def off(self, deal):
        self.happened.append(("off", deal))
        if self.locked is not None and self.locked[0] == deal:
            self.locked = None
        if self.last_event(deal) in ("mark", "ready"):
            self.event("no", deal)

    def gone(self, hand, deal):
        return [(hand, self.node, "gone", deal, self.life)]

    def take_visit(self, hand, deal, number, attempt, life):
        if life != self.life or self.is_closed(deal):
            return self.gone(hand, deal)
        if self.is_ready(deal) or self.is_ended(deal):
            return []
        if any((number, attempt) <= step for step in self.left(deal)):
            return []
        if self.locked is not None and (self.locked[0] != deal or self.locked[1:] > (number, attempt)):
            return []
        self.locked = (deal, number, attempt)
        self.happened.append(("hand", deal, hand))
        rows = sorted((do[4], do[0], do[1], do) for do, brought in self.rows() if brought or self.is_ended(do[0]))
        marks = {(other, 1, 0, 0) for other in self.all_of(self.is_ready)}
        marks |= {(mark[0], 0) + mark[2:] for mark in self.marked() if self.works(mark[0]) and mark[0] != deal}
        return [(hand, self.node, "shown", deal, number, attempt, life, self.date(), tuple(row[3] for row in rows),
                 tuple(sorted(marks)))]

    def take_note(self, hand, deal, number, attempt, life, ask, answer, date, noted, rows):
        if life != self.life or self.is_closed(deal):
            return self.gone(hand, deal)
        if (deal, number) not in [mark[:2] for mark in self.marked()]:
            if self.locked != (deal, number, attempt):
                return self.gone(hand, deal)
            if noted:
                here = [do[:2] for do, _ in self.rows()]
                lacks = [do for do in rows + ((deal, number, ask, answer, date),) if do[:2] not in here]
                if self.free() < len(lacks):
                    self.off(deal)
                    return self.gone(hand, deal)
                for do in lacks:
                    self.put(8 * do[0] + (do[0] != deal), *do[1:])
                    self.happened.append(("row", do, do[0] != deal))
            self.happened += [("mark", (deal, number, ask, answer), max([date] + [do[4] for do in rows])),
                              ("left", deal, (number, attempt)), ("hand", deal, hand)]
            self.locked = None
            self.event("mark", deal, number)
        return [(hand, self.node, "noted", deal, number, life)]

    def take_leave(self, _, deal, number, attempt, others):
        self.happened.append(("left", deal, (number, attempt)))
        sent = []
        if self.locked == (deal, number, attempt):
            for other in others:
                if other != deal and self.works(other):
                    sent += self.gone(self.hand(other), other)
                    self.off(other)
        if self.locked is not None and self.locked[0] == deal and self.locked[1:] <= (number, attempt):
            self.locked = None
        return sent

    def take_hold(self, _, deal, many, life):
        if not self.is_ready(deal) and not self.is_ended(deal):
            if self.locked is not None:
                return []
            marks = [mark for mark in self.marked() if mark[0] == deal]
            if life != self.life or len(marks) != many or self.free() < 2:
                if self.works(deal):
                    self.off(deal)
                return [(6, self.node, "barred", deal)]
            record = (8 * deal + 2, self.date())
            self.put(*record)
            self.records.pop()
            self.disk.do(("flush",))
            self.records.append(record)
            self.event("ready", deal)
        return [(6, self.node, "held", deal)]

    def take_yes(self, _, deal):
        if self.is_ready(deal):
            self.put(8 * deal + 3)
            self.disk.do(("flush",))
            self.event("yes", deal)
        return [(6, self.node, "done", deal)]

    def take_no(self, node, deal):
        if self.is_ready(deal):
            if node == 6:
                self.put(8 * deal + 4)
                self.off(deal)
        elif not self.is_ended(deal) and not self.is_closed(deal):
            self.off(deal)
        return []

    def drop(self, deal):
        if not self.up or not self.works(deal):
            return ()
        sent = self.gone(self.hand(deal), deal)
        self.off(deal)
        return tuple(sent)

    def again(self):
        if not self.up:
            return ()
        sent = [(6, self.node, "what", deal) for deal in self.all_of(self.is_ready)]
        for deal in self.all_of(self.works):
            place = ([mark[1] for mark in self.marked() if mark[0] == deal][-1:] or [None])[0], 0
            if self.locked is not None and self.locked[0] == deal:
                place = self.locked[1:]
            sent.append((self.hand(deal), self.node, "still", deal) + place + (self.life,))
        return tuple(sent)


class PlainTeller(PlainNode):
    """The teller: what happened in this life is a list."""

    def begin(self):
        self.happened = []

    def yes(self, deal):
        """The lot of the sites of a deal that is decided yes, None of another one."""
        found = [record[1] for record in self.records if record[0] == deal]
        return [site for site in range(6) if found[0] & 2 ** site] if found else None

    def poll(self, deal):
        """The hand and the parts of a deal that is asked round, None of another one."""
        found = None
        for deed in self.happened:
            if deed[1] == deal and deed[0] == "end":
                found = deed[2:]
            if deed[1] == deal and deed[0] == "decided":
                found = None
        return found

    def refused(self, deal):
        return ("decided", deal, 0) in self.happened

    def said(self, word, deal):
        return [deed[2] for deed in self.happened if deed[:2] == (word, deal)]

    def asking(self):
        return tuple(deal for deal in range(12) if self.poll(deal) is not None) if self.up else ()

    def told(self, hand, deal, told):
        return [(hand, 6, "told", deal, told, self.life)]

    def decide(self, deal, told):
        hand, parts = self.poll(deal)
        sites = [part[0] for part in parts]
        if told and self.room():
            self.put(deal, sum(2 ** site for site in sites))
            self.disk.do(("flush",))
        else:
            told = 0
        self.happened.append(("decided", deal, told))
        return [(site, 6, "yes" if told else "no", deal) for site in sites] + self.told(hand, deal, told)

    def holds(self, deal):
        return [(site, 6, "hold", deal, many, life) for site, many, life in self.poll(deal)[1]
                if site not in self.said("held", deal)]

    def take_end(self, hand, deal, life, parts):
        if self.yes(deal) is not None:
            return self.told(hand, deal, 1)
        if self.refused(deal):
            return self.told(hand, deal, 0)
        if self.poll(deal) is None:
            if life != self.life:
                self.happened.append(("decided", deal, 0))
                return self.told(hand, deal, 0)
            self.happened.append(("end", deal, hand, parts))
            if not parts:
                return self.decide(deal, 1)
        return self.holds(deal)

    def take_held(self, site, deal):
        if self.poll(deal) is None:
            return self.take_what(site, deal)
        sites = [part[0] for part in self.poll(deal)[1]]
        if site in sites:
            self.happened.append(("held", deal, site))
            if set(self.said("held", deal)) == set(sites):
                return self.decide(deal, 1)
        return []

    def take_barred(self, site, deal):
        if self.poll(deal) is not None and site in [part[0] for part in self.poll(deal)[1]]:
            return self.decide(deal, 0)
        return []

    def take_what(self, site, deal):
        if self.poll(deal) is not None:
            return []
        if self.yes(deal) is not None:
            return [(site, 6, "yes", deal)]
        self.happened.append(("decided", deal, 0))
        return [(site, 6, "no", deal)]

    def take_done(self, site, deal):
        if self.yes(deal) is not None and site in self.yes(deal):
            self.happened.append(("done", deal, site))
        return []

    def give_up(self, deal):
        return tuple(self.decide(deal, 0)) if self.up and self.poll(deal) is not None else ()

    def again(self):
        sent = []
        for deal in range(12 if self.up else 0):
            if self.poll(deal) is not None:
                sent += self.holds(deal)
            elif self.yes(deal) is not None:
                sent += [(site, 6, "yes", deal) for site in self.yes(deal) if site not in self.said("done", deal)]
        return tuple(sent)
