"""One life of a site: what it has, and what it does with each letter."""

from fewvisits.keepings import BROUGHT, NO, OWN, YES, Kept, do_record, end_record, ready_record
from fewvisits.letters import TELLER, by_date


class Stay:
    """What a site has in one life; Out leaves it in the midst of what it did."""

    def __init__(self, node, journal, tidings):
        kept = Kept(journal.records())
        self.node = node
        self.journal = journal
        self.tidings = tidings
        self.rows = kept.rows
        self.date = kept.latest
        self.holding = {deal: True for deal in kept.readied if kept.is_ready(deal)}
        self.ended = {deal: True for deal in kept.agreed}
        self.closed = {deal: True for deal in kept.refused}
        self.marks = []
        self.lock = None
        self.left = {}
        self.hands = {}
        tidings.tell_life(kept)

    def is_at_work(self, deal):
        """Whether a deal is neither ready nor ended, and has the lock or a mark."""
        if deal in self.holding or deal in self.ended:
            return False
        return self.has_lock(deal) or any([mark[0] == deal for mark in self.marks])

    def has_lock(self, deal):
        """Whether the lock is a deal's."""
        return self.lock is not None and self.lock[0] == deal

    def deals_at_work(self):
        """The deals at work, ascending."""
        found = {mark[0]: True for mark in self.marks}
        if self.lock is not None:
            found[self.lock[0]] = True
        return [deal for deal in sorted(list(found)) if self.is_at_work(deal)]

    def has_room(self, many):
        """Whether there is room for so many records, and for one more for each ready deal."""
        return self.journal.room >= many + len(self.holding)

    def call_off(self, deal):
        """Calls a deal off: what it has here goes, but what was brought as that of an ended deal."""
        self.marks = [mark for mark in self.marks if mark[0] != deal]
        self.rows = {key: row for key, row in self.rows.items() if key[0] != deal or row[1]}
        if self.has_lock(deal):
            self.lock = None
        self.closed[deal] = True
        self.tidings.tell_no(deal)

    def gone(self, hand, deal):
        """The letter that a deal is gone here."""
        return (hand, self.node, "gone", deal, self.journal.life)

    def count_left(self, deal, step):
        """Counts this (number, try) of a deal as left."""
        self.left[deal] = max(step, self.left.get(deal, step))

    def take(self, letter):
        """The letters that come of a letter."""
        word, deal = letter[2:4]
        if word == "visit":
            return self.take_visit(letter)
        if word == "note":
            return self.take_note(letter)
        if word == "leave":
            return self.take_leave(letter)
        if word == "hold":
            return self.take_hold(letter)
        if word == "yes":
            return self.take_yes(deal)
        return self.take_no(deal, letter[1] == TELLER)

    def take_visit(self, letter):
        """Locks the site for a do, and shows what it knows."""
        hand, deal, number, attempt, life = letter[1:2] + letter[3:]
        if life != self.journal.life or deal in self.closed:
            return (self.gone(hand, deal),)
        if deal in self.holding or deal in self.ended or not self.may_lock(deal, (number, attempt)):
            return ()
        self.lock = (deal, number, attempt)
        self.hands[deal] = hand
        shown = (self.date, self.shown_rows(), self.shown_marks(deal))
        return ((hand, self.node, "shown", deal, number, attempt, life) + shown,)

    def may_lock(self, deal, step):
        """Whether a deal may have the lock for this (number, try)."""
        if deal in self.left and step <= self.left[deal]:
            return False
        return self.lock is None or (self.lock[0] == deal and self.lock[1:] <= step)

    def shown_rows(self):
        """The dos of ended deals, and those that were brought as such, in order."""
        keyed = [(by_date(do), do) for do, brought in self.rows.values() if brought or do[0] in self.ended]
        return tuple([do for _, do in sorted(keyed)])

    def shown_marks(self, deal):
        """The marks of all other deals, as a shown has them."""
        found = {(other, 1, 0, 0): True for other in self.holding}
        for other, _, ask, answer in self.marks:
            if self.is_at_work(other):
                found[(other, 0, ask, answer)] = True
        return tuple([mark for mark in sorted(list(found)) if mark[0] != deal])

    def take_note(self, letter):
        """Keeps a do, marks it, and unlocks the site."""
        hand, deal, number, attempt, life, ask, answer, date, noted, rows = letter[1:2] + letter[3:]
        if life != self.journal.life or deal in self.closed:
            return (self.gone(hand, deal),)
        if any([mark[:2] == (deal, number) for mark in self.marks]):
            return ((hand, self.node, "noted", deal, number, life),)
        if self.lock != (deal, number, attempt):
            return (self.gone(hand, deal),)
        if noted == 1 and not self.keep(deal, rows + ((deal, number, ask, answer, date),)):
            self.call_off(deal)
            return (self.gone(hand, deal),)
        self.marks.append((deal, number, ask, answer))
        self.date = max([self.date, date] + [do[4] for do in rows])
        self.hands[deal] = hand
        self.lock = None
        self.count_left(deal, (number, attempt))
        self.tidings.tell(("mark", deal, number))
        return ((hand, self.node, "noted", deal, number, life),)

    def keep(self, deal, dos):
        """Puts those of the dos that a note of a deal tells which are lacking, if there is room; whether there is."""
        lacking = [do for do in dos if do[:2] not in self.rows]
        if not self.has_room(len(lacking)):
            return False
        for do in lacking:
            self.journal.put(do_record(do, OWN if do[0] == deal else BROUGHT))
            self.rows[do[:2]] = (do, do[0] != deal)
        return True

    def take_leave(self, letter):
        """Unlocks the site, and calls off whom the deal pushes."""
        deal, number, attempt, others = letter[3:]
        step = (number, attempt)
        self.count_left(deal, step)
        if not self.has_lock(deal) or self.lock[1:] > step:
            return ()
        sent = []
        if self.lock[1:] == step:
            for other in others:
                if other != deal:
                    sent = sent + list(self.drop(other))
        self.lock = None
        return tuple(sent)

    def drop(self, deal):
        """Calls off a deal that is at work, and tells its hand."""
        if not self.is_at_work(deal):
            return ()
        self.call_off(deal)
        return (self.gone(self.hands[deal], deal),)

    def take_hold(self, letter):
        """Gets a deal ready, if it is all here, and tells the teller."""
        deal, many, life = letter[3:]
        if deal not in self.holding and deal not in self.ended:
            if self.lock is not None:
                return ()
            marks = [mark for mark in self.marks if mark[0] == deal]
            if life != self.journal.life or len(marks) != many or not self.has_room(2):
                self.drop(deal)
                return ((TELLER, self.node, "barred", deal),)
            self.journal.put(ready_record(deal, self.date))
            self.journal.force()
            self.holding[deal] = True
            self.tidings.tell(("ready", deal))
        return ((TELLER, self.node, "held", deal),)

    def take_yes(self, deal):
        """Ends a deal that is ready."""
        if deal in self.holding:
            self.journal.put(end_record(deal, YES))
            self.journal.force()
            self.holding.pop(deal)
            self.ended[deal] = True
            self.tidings.tell(("yes", deal))
        return ((TELLER, self.node, "done", deal),)

    def take_no(self, deal, is_of_teller):
        """Calls a deal off, one that is ready only if the teller says so."""
        if deal in self.holding:
            if is_of_teller:
                self.journal.put(end_record(deal, NO))
                self.holding.pop(deal)
                self.call_off(deal)
        elif deal not in self.ended and deal not in self.closed:
            self.call_off(deal)
        return ()

    def again(self):
        """What is asked again: the teller for each ready deal, the hand of each deal at work."""
        sent = [(TELLER, self.node, "what", deal) for deal in sorted(list(self.holding))]
        for deal in self.deals_at_work():
            sent.append((self.hands[deal], self.node, "still", deal) + self.place_of_work(deal) + (self.journal.life,))
        return tuple(sent)

    def place_of_work(self, deal):
        """The number and the try of the lock of a deal, or the number of its last mark and the try 0."""
        if self.has_lock(deal):
            return self.lock[1:]
        return ([mark[1] for mark in self.marks if mark[0] == deal][-1], 0)
