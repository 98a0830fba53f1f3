"""Drawn programs and scripts of all mishaps, and what always holds of worlds; only for tests."""

import random

from fewvisits.kinds import operations_of
from fewvisits.least_notes import majority
from fewvisits.lowered import lowered
from fewvisits.makers import bag, chest, counter, line, purse, shelf, tickets
from fewvisits.patience import by_number
from fewvisits.programs import Program
from fewvisits.right import is_right
from fewvisits.spread_logs import first_stray
from fewvisits.spreads import Spread
from fewvisits.weaves import fits_all

KINDS = [purse(2, 1), tickets(3), counter(1), chest(2), shelf(2, 0), line(2, 1), bag(2, 2)]
RIGHTS = {}


def right_spread(dice, kind, sites):
    """Some right spread of a kind: that of the majority, the greatest one, or one of these lowered."""
    way = dice.randrange(4)
    key = (str(kind), sites, way)
    if key not in RIGHTS:
        told = majority(kind, sites)
        if way % 2:
            told = Spread(kind, sites, [row[:2] + (sites, sites) for row in told.rows])
        RIGHTS[key] = lowered(told) if way > 1 else told
        assert is_right(RIGHTS[key])
    return RIGHTS[key]


def any_spread(dice, kind, sites):
    """Some spread of a kind, right or not."""
    rows = []
    for ask, answer in operations_of(kind):
        visits = dice.randint(1, sites)
        rows.append((ask, answer, visits, dice.randint(0, visits)))
    return Spread(kind, sites, rows)


def some_pairs(dice):
    way = dice.randrange(4)
    if way == 0:
        return []
    if way == 1:
        return by_number(8, dice.random() < 0.5)
    order = dice.sample(range(8), 8)
    found = [(one, other) for place, one in enumerate(order) for other in order[place + 1:]]
    return found if way == 2 else dice.sample(found, 12)


def some_program(dice, right=True, kinds=KINDS, pairs=None):
    """Some program; its pairs go one way, if none are told."""
    sites = dice.sample(range(6), 6)
    things = []
    while sites and len(things) < 4 and (not things or dice.random() < 0.5):
        many = min(len(sites), dice.choice([1, 2, 3, 3, 3, 4, 5]))
        kind = dice.choice(kinds)
        spread = (right_spread if right else any_spread)(dice, kind, many)
        things.append((spread, sorted(sites[:many])))
        sites = sites[many:]
    hands = [[] for _ in range(dice.choice([1, 2, 2, 3, 3, 4, 8]))]
    for _ in range(dice.randint(0, 8)):
        deal = []
        for _ in range(dice.choice([1, 1, 2, 2, 3, 4, 12])):
            thing = dice.randrange(len(things))
            deal.append((thing, dice.randrange(len(things[thing][0].kind.asks))))
        dice.choice(hands).append(deal)
    return Program(things, hands, some_pairs(dice) if pairs is None else pairs)


def mishap(dice, program):
    """Some step that goes wrong, or is asked again."""
    node = dice.choice([site for _, sites in program.things for site in sites] + [6])
    word = dice.choice(["lose", "twice", "bring", "cut", "fuse", "rise", "rise", "drop", "again", "again", "quit", "leave", "send"])
    if word in ("lose", "twice", "bring"):
        return (word, dice.choice([0, 1, 7, dice.randrange(10 ** 6)]))
    if word == "cut":
        return (word, node, dice.choice([0, 1, 2, 2 ** 60, dice.randrange(2 ** 20)]))
    if word == "fuse":
        return (word, node, dice.randint(0, 6))
    if word in ("rise", "again"):
        return (word, node)
    if word == "drop":
        return (word, min(node, 5), dice.randrange(8))
    if word == "quit":
        return (word, dice.randrange(8))
    return (word, dice.randrange(8))


def some_steps(dice, program, wild):
    """Some steps of a try of a hand, with mishaps among them as often as wild tells."""
    hand = dice.randrange(len(program.hands))
    thing = dice.randrange(len(program.things))
    steps = []
    for site in program.things[thing][1]:
        if dice.random() < 0.85:
            steps += [("visit", hand, site), ("bring", 0), ("bring", 0)]
    steps.append(("decide", hand, dice.choice([0, 1, 2, 3, 5, 31, dice.randrange(64)])))
    steps += [("bring", 0)] * dice.randint(0, 10)
    if dice.random() < 0.5:
        steps += [("send", hand)] + [("bring", dice.choice([0, 0, 0, dice.randrange(50)]))] * dice.randint(0, 14)
    if dice.random() < 0.3:
        steps.append(("leave", hand))
    found = []
    for step in steps:
        if dice.random() < wild:
            found.append(mishap(dice, program))
        if dice.random() >= wild / 3:
            found.append(step)
    return found


def some_script(dice, program, many, wild=None):
    wild = dice.choice([0, 0.02, 0.1, 0.3]) if wild is None else wild
    found = []
    while len(found) < many:
        found += some_steps(dice, program, wild)
    return found[:many]


def wrong_things(world, right):
    """What does not hold of a world of what always holds; right tells whether all spreads are right."""
    found = []
    settled = world.settled()
    heard = world.heard()
    for thing, (spread, _) in enumerate(world.program.things):
        log = world.log(thing)
        if first_stray(spread, log) is not None:
            found.append(("stray", thing, log))
    if right and not fits_all(settled, world.order()):
        found.append("order")
    for deal, (answers, told) in enumerate(heard):
        if told == 1 and answers and deal not in settled.ended:
            found.append(("yes", deal))
        if told == 0 and deal in settled.ended:
            found.append(("no", deal))
        given = [event[3] for event in settled.events if event[0] == "answer" and event[2] == deal]
        if given != list(answers):
            found.append(("answers", deal))
    return found
