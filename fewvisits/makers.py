"""Kinds that are made: purses, tickets, counters, chests, shelves, lines, piles and bags."""

from fewvisits.checks import need_within
from fewvisits.errors import TooMany
from fewvisits.kinds import MOST_STATES, Kind


def numbered(word, many):
    """The words made of this one and the numbers from 0 on below many."""
    return [f"{word}{number}" for number in range(many)]


def purse(most, first):
    """A sum from 0 to most, to which 1 or 2 are put, and from which they are taken."""
    need_within(most, 1, 8, "most")
    need_within(first, 0, most, "first")
    rows = []
    for held in range(most + 1):
        for ask, many in ((0, 1), (1, 2)):
            rows.append((held, ask, 0, held + many) if held + many <= most else (held, ask, 1, held))
        for ask, many in ((2, 1), (3, 2)):
            rows.append((held, ask, 0, held - many) if held >= many else (held, ask, 2, held))
        rows.append((held, 4, 3 + held, held))
    answers = ["ok", "full", "short"] + numbered("n", most + 1)
    return Kind(["put1", "put2", "take1", "take2", "read"], answers, most + 1, first, rows)


def tickets(many):
    """The numbers from 0 on below many, given out one behind another, then none for ever."""
    need_within(many, 1, 11, "many")
    rows = [(given, 0, given, given + 1) for given in range(many)] + [(many, 0, many, many)]
    return Kind(["draw"], numbered("n", many) + ["none"], many + 1, 0, rows)


def counter(most):
    """A number from 0 to most that goes up and down, round and round."""
    need_within(most, 1, 10, "most")
    rows = []
    for told in range(most + 1):
        rows.append((told, 0, 0, told + 1 if told < most else 0))
        rows.append((told, 1, 0, told - 1 if told > 0 else most))
        rows.append((told, 2, 1 + told, told))
    return Kind(["up", "down", "read"], ["ok"] + numbered("n", most + 1), most + 1, 0, rows)


def chest(items):
    """Some of so many items, each put in and taken out."""
    need_within(items, 1, 4, "items")
    rows = []
    for held in range(1 << items):
        for item in range(items):
            within = (held >> item) & 1 == 1
            rows.append((held, item, 1, held) if within else (held, item, 0, held + (1 << item)))
        for item in range(items):
            within = (held >> item) & 1 == 1
            rows.append((held, items + item, 0, held - (1 << item)) if within else (held, items + item, 2, held))
    return Kind(numbered("put", items) + numbered("take", items), ["ok", "there", "gone"], 1 << items, 0, rows)


def shelf(worths, first):
    """A worth below worths that is set and read."""
    need_within(worths, 2, 7, "worths")
    need_within(first, 0, worths - 1, "first")
    rows = []
    for held in range(worths):
        for worth in range(worths):
            rows.append((held, worth, 0, worth))
        rows.append((held, worths, 1 + held, held))
    return Kind(numbered("set", worths) + ["read"], ["ok"] + numbered("n", worths), worths, first, rows)


def need_holder(room, items):
    """Raises BadNumber for the room or the items of no line, pile or bag."""
    need_within(room, 1, 8, "room")
    need_within(items, 1, 3, "items")


def lists_of(room, items, falling):
    """All lists of at most room items, shorter ones first; those that fall only if falling."""
    found = []
    longest = [()]
    for _ in range(room):
        found = found + longest
        longest = [held + (item,) for held in longest for item in range(items)
                   if falling or not held or item >= held[-1]]
        if len(found) + len(longest) > MOST_STATES:
            raise TooMany("states", MOST_STATES)
    return found + longest


def added(held, item, sort_held):
    """The list behind an adding."""
    behind = held + (item,)
    return tuple(sorted(behind)) if sort_held else behind


def taken(held, places):
    """For each of these places of a list, ascending: the item that stands there, and the list without it."""
    return [(held[place], held[:place] + held[place + 1:]) for place in places]


def holder(room, items, places_of, is_bag):
    """The kind of a line, a pile or a bag; places_of tells the places from which a list gives."""
    lists = lists_of(room, items, not is_bag)
    numbers = {held: number for number, held in enumerate(lists)}
    rows = []
    for held in lists:
        state = numbers[held]
        for item in range(items):
            full = len(held) == room
            rows.append((state, item, 1, state) if full else (state, item, 0, numbers[added(held, item, is_bag)]))
        if not held:
            rows.append((state, items, 2, state))
        for item, behind in taken(held, places_of(held)):
            rows.append((state, items, 3 + item, numbers[behind]))
    answers = ["ok", "full", "empty"] + numbered("i", items)
    return Kind(numbered("add", items) + ["next"], answers, len(lists), 0, rows)


def first_place(held):
    """The place of the item that was added first, alone; none of an empty list."""
    return [0] if held else []


def last_place(held):
    """The place of the item that was added last, alone; none of an empty list."""
    return [len(held) - 1] if held else []


def unlike_places(held):
    """The first place of each item of a list that does not fall."""
    return [place for place in range(len(held)) if place == 0 or held[place] != held[place - 1]]


def line(room, items):
    """At most room things, of which the one that was added first is given first."""
    need_holder(room, items)
    return holder(room, items, first_place, False)


def pile(room, items):
    """At most room things, of which the one that was added last is given first."""
    need_holder(room, items)
    return holder(room, items, last_place, False)


def bag(room, items):
    """At most room things, of which any one is given."""
    need_holder(room, items)
    return holder(room, items, unlike_places, True)
