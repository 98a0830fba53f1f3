"""Slow and plain ways of reading the texts of things, and of telling how they answer; only for tests.

Texts are read by a stack of what is still wanted, and answers are worked out straight from the items.
"""

import random

FIELD_WORDS = ["number", "line", "lot"]
BARRED = "number line lot ask when may pick answer it one front back size has not and or yes set push shift pop put " \
         "drop"
LETTERS = "abcdefghijklmnopqrstuvwxyz"
DEEDS = {"set": ["number"], "push": ["line"], "shift": ["line"], "pop": ["line"], "put": ["lot"], "drop": ["lot"]}
VALUE = {"+": 2, "-": 2}


def a_word(item):
    return 1 <= len(item) <= 12 and all(sign in LETTERS + "0123456789" for sign in item)


def an_integer(item, low, high):
    return any(item == str(number) for number in range(low, high + 1))


class Wanted:
    """What is still wanted behind the items that were read."""

    def __init__(self):
        self.stack = []
        self.fields = {}
        self.asks = []
        self.numbers = []
        self.it = False
        self.one = False

    def push(self, *wanted):
        self.stack += reversed(wanted)

    def takes(self, item):
        """Whether an item can stand; what is wanted is what comes behind it then."""
        while self.stack:
            wanted = self.stack.pop()
            told = getattr(self, "at_" + wanted[0])(item, *wanted[1:])
            if told is not None:
                return told
        return False

    def at_just(self, item, mark):
        return item == mark

    def at_fields(self, item):
        if item in FIELD_WORDS and len(self.fields) < 6:
            rest = {"number": [("low",), ("high",), ("within",)], "line": [("from_to", 1, 8), ("from_to", 1, 9)],
                    "lot": [("from_to", 1, 9)]}[item]
            self.push(("name", item), *rest, ("just", "/"), ("fields",))
            return True
        self.push(("part",))

    def at_name(self, item, shape):
        if not a_word(item) or item[0] not in LETTERS or item in BARRED.split() or item in self.fields:
            return False
        self.fields[item] = shape
        return True

    def at_low(self, item):
        self.numbers = [item]
        return an_integer(item, -999, 999)

    def at_high(self, item):
        self.numbers.append(item)
        return an_integer(item, int(self.numbers[0]), 999)

    def at_within(self, item):
        return an_integer(item, int(self.numbers[0]), int(self.numbers[1]))

    def at_from_to(self, item, low, high):
        return an_integer(item, low, high)

    def at_part(self, item):
        self.it = False
        self.push(("askword",), ("numbers",), ("case",), ("cases",), ("parts",))
        return item == "ask"

    def at_parts(self, item):
        self.push(("part",), ("parts",))
        return item == "/"

    def at_askword(self, item):
        self.asks.append(item)
        return a_word(item)

    def at_numbers(self, item):
        if item == ":":
            return True
        self.it = True
        self.numbers = [item]
        self.push(("asks_high",), ("just", ":"))
        return an_integer(item, 0, 7)

    def at_asks_high(self, item):
        if not an_integer(item, int(self.numbers[0]), 7):
            return False
        word = self.asks.pop()
        self.asks += [word + str(number) for number in range(int(self.numbers[0]), int(item) + 1)]
        return True

    def at_cases(self, item):
        if item == ":":
            self.push(("case",), ("cases",))
            return True

    def at_case(self, item):
        self.one = item == "pick"
        rest = [("pick_low",), ("pick_high",)] if self.one else []
        self.push(*rest, ("condition", 1), ("just", "answer"), ("word",), ("maybe_value",), ("deeds", 8))
        return item in ("when", "may", "pick")

    def at_pick_low(self, item):
        self.numbers = [item]
        return an_integer(item, 0, 8)

    def at_pick_high(self, item):
        return an_integer(item, int(self.numbers[0]), 8)

    def at_word(self, item):
        return a_word(item)

    def at_maybe_value(self, item):
        if item not in DEEDS and item not in (":", "/"):
            return self.at_value(item, 1)

    def at_deeds(self, item, left):
        if item in DEEDS and left:
            value = [] if item in ("shift", "pop") else [("value", 1)]
            self.push(("field", DEEDS[item]), *value, ("deeds", left - 1))
            return True

    def at_field(self, item, shapes):
        return self.fields.get(item) in shapes

    def at_value(self, item, depth):
        if depth == 13:
            return False
        if item in ("+", "-"):
            self.push(("value", depth + 1), ("value", depth + 1))
            return True
        if item in ("size", "front", "back"):
            self.push(("field", ["line", "lot"] if item == "size" else ["line"]))
            return True
        if item in ("it", "one"):
            return self.it if item == "it" else self.one
        return self.fields.get(item) == "number" or an_integer(item, -999, 999)

    def at_condition(self, item, depth):
        inner = {"yes": [], "<": ["value"] * 2, "=": ["value"] * 2, "has": ["value"], "not": ["condition"],
                 "and": ["condition"] * 2, "or": ["condition"] * 2}
        if depth == 13 or item not in inner:
            return False
        first = [("field", ["line", "lot"])] if item == "has" else []
        self.push(*first, *[(word, depth + 1) for word in inner[item]])
        return True


NOUGHT = ("parts", "cases", "maybe_value", "deeds")


def bad_item(text, wanted):
    """The index of the first item that cannot stand, the number of items if one is missing, None otherwise."""
    if not isinstance(text, str):
        return 0
    items = text.split(" ")
    for place, item in enumerate(items):
        if not wanted.takes(item):
            return place
    return None if all(rest[0] in NOUGHT for rest in wanted.stack) else len(items)


def bad_thing(text):
    """The item with which a text is no thing, None if it is one."""
    wanted = Wanted()
    wanted.push(("fields",))
    found = bad_item(text, wanted)
    if found is None:
        words = wanted.asks
        if len(words) > 8 or len(set(words)) < len(words) or max(map(len, words)) > 12:
            return len(text.split(" ")) - 1
    return found


def bad_condition(text, fields):
    """The item with which a text is no condition, fields being a dict of shapes by names."""
    wanted = Wanted()
    wanted.fields = dict(fields)
    wanted.push(("condition", 1))
    return bad_item(text, wanted)


class Plain:
    """A thing, by its text; a state is a dict of the fields here."""

    def __init__(self, text):
        parts = [part.split(" ") for part in text.split(" / ")]
        self.fields = [part for part in parts if part[0] != "ask"]
        self.names = [part[1] for part in self.fields]
        self.asks = []
        for part in text.split(" / "):
            if part.startswith("ask "):
                head, *cases = part.split(" : ")
                head = head.split(" ")
                numbers = [None] if len(head) == 2 else range(int(head[2]), int(head[3]) + 1)
                for it in numbers:
                    word = head[1] + ("" if it is None else str(it))
                    self.asks.append((word, it, [case.split(" ") for case in cases]))

    def first(self):
        return tuple(int(part[4]) if part[0] == "number" else () for part in self.fields)

    def given(self, state, ask):
        """A list of pairs (answer, next state)."""
        word, it, cases = self.asks[ask]
        found = []
        for items in cases:
            picks = range(int(items[1]), int(items[2]) + 1) if items[0] == "pick" else [None]
            for one in picks:
                run = Run(self, dict(zip(self.names, state)), {"it": it, "one": one})
                told = run.case(items[3:] if items[0] == "pick" else items[1:])
                if told is not None:
                    if told not in [answer for answer, _ in found]:
                        found.append((told, tuple(run.kept[name] for name in self.names)))
                    if items[0] == "when":
                        return found
        return found

    def so(self, items, state):
        """Whether a condition is so."""
        run = Run(self, dict(zip(self.names, state)), {})
        run.items = list(items)
        told = run.condition()
        assert not run.items
        return told and not run.lacks

    def lists(self, state, longest):
        """All lists of operations that can be played from a state, shorter ones first, each with its end."""
        level = [((), state)]
        found = list(level)
        for _ in range(longest):
            level = [(moves + ((ask[0], answer),), behind) for moves, here in level
                     for number, ask in enumerate(self.asks) for answer, behind in self.given(here, number)]
            found += sorted(level)
        return found


class Run:
    """Goes along the items of a case; kept tells the fields."""

    def __init__(self, plain, kept, numbers):
        self.fields = {part[1]: part for part in plain.fields}
        self.kept = kept
        self.numbers = numbers
        self.lacks = False
        self.items = []

    def value(self):
        item = self.items.pop(0)
        if item in ("+", "-"):
            first, second = self.value(), self.value()
            return first + second if item == "+" else first - second
        if item in ("it", "one"):
            return self.numbers[item]
        if item == "size":
            return len(self.kept[self.items.pop(0)])
        if item in ("front", "back"):
            row = self.kept[self.items.pop(0)]
            if not row:
                self.lacks = True
                return 0
            return row[0] if item == "front" else row[-1]
        return self.kept[item] if item in self.kept else int(item)

    def condition(self):
        item = self.items.pop(0)
        if item == "has":
            row = self.kept[self.items.pop(0)]
            return self.value() in row
        if item in ("<", "="):
            first, second = self.value(), self.value()
            return first < second if item == "<" else first == second
        if item == "not":
            return not self.condition()
        if item in ("and", "or"):
            told = [self.condition(), self.condition()]
            return all(told) if item == "and" else any(told)
        return True

    def case(self, items):
        """The answer, None if the case does not hold; kept is what the deeds leave."""
        self.items = list(items)
        so = self.condition()
        self.items.pop(0)
        answer = self.items.pop(0)
        if self.items and self.items[0] not in DEEDS:
            told = self.value()
            if told < 0:
                return None
            answer += str(told)
        if not so or self.lacks or len(answer) > 12:
            return None
        while self.items:
            if not self.deed() or self.lacks:
                return None
        return answer

    def deed(self):
        """Does the next deed; whether it does not fail."""
        word, name = self.items.pop(0), self.items.pop(0)
        row = self.kept[name]
        part = self.fields[name]
        if word in ("shift", "pop"):
            self.kept[name] = row[1:] if word == "shift" else row[:-1]
            return bool(row)
        told = self.value()
        if word == "set":
            self.kept[name] = told
            return int(part[2]) <= told <= int(part[3])
        if not 0 <= told < int(part[-1]):
            return False
        if word == "push":
            self.kept[name] = row + (told,)
            return len(row) < int(part[2])
        rest = set(row) - {told}
        self.kept[name] = tuple(sorted(rest | {told} if word == "put" else rest))
        return True


class Maker:
    """Makes texts of things by dice."""

    def __init__(self, seed):
        self.dice = random.Random(seed)
        self.fields = {}

    def value(self, depth, marks):
        dice = self.dice
        numbers = [name for name, shape in self.fields.items() if shape == "number"]
        rows = [name for name, shape in self.fields.items() if shape != "number"]
        lines = [name for name, shape in self.fields.items() if shape == "line"]
        choice = dice.randrange(8)
        if choice < 2 and depth < 4:
            return f"{dice.choice('+-')} {self.value(depth + 1, marks)} {self.value(depth + 1, marks)}"
        if choice == 2 and rows:
            return f"size {dice.choice(rows)}"
        if choice == 3 and lines:
            return f"{dice.choice(['front', 'back'])} {dice.choice(lines)}"
        if choice in (4, 5) and marks:
            return dice.choice(marks)
        if choice > 4 and numbers:
            return dice.choice(numbers)
        return str(dice.choice([0, 0, 1, 1, 2, -1, 3]))

    def condition(self, depth, marks):
        dice = self.dice
        rows = [name for name, shape in self.fields.items() if shape != "number"]
        choice = dice.randrange(8)
        if choice < 2 and depth < 4:
            return f"{dice.choice(['and', 'or'])} {self.condition(depth + 1, marks)} {self.condition(depth + 1, marks)}"
        if choice == 2 and depth < 4:
            return f"not {self.condition(depth + 1, marks)}"
        if choice == 3 and rows:
            return f"has {dice.choice(rows)} {self.value(depth + 1, marks)}"
        if choice < 6:
            return f"{dice.choice('<=')} {self.value(depth + 1, marks)} {self.value(depth + 1, marks)}"
        return "yes"

    def deed(self, marks):
        name = self.dice.choice(list(self.fields))
        word = self.dice.choice([word for word in DEEDS if self.fields[name] in DEEDS[word]])
        return f" {word} {name}" + ("" if word in ("shift", "pop") else " " + self.value(1, marks))

    def case(self, word, marks):
        head = word
        if word == "pick":
            low = self.dice.randrange(3)
            head, marks = f"pick {low} {low + self.dice.randrange(3)}", marks + ["one"]
        answer = self.dice.choice(["a", "b", "c"])
        if self.dice.random() < 0.3:
            answer += " " + self.value(1, marks)
        many = self.dice.choice([0, 0, 1, 1, 2]) if self.fields else 0
        return f"{head} {self.condition(1, marks)} answer {answer}" + "".join(self.deed(marks) for _ in range(many))

    def text(self):
        dice = self.dice
        parts = []
        for name in dice.sample(["n", "left", "row", "kept"], dice.randrange(4)):
            shape = dice.choice(FIELD_WORDS)
            low = dice.choice([-1, 0, 0])
            rest = {"number": f"{low} {low + dice.randrange(3)} {low}", "line": f"{dice.choice([1, 2, 3])} {dice.choice([2, 3])}",
                    "lot": f"{dice.choice([1, 2])}"}[shape]
            self.fields[name] = shape
            parts.append(f"{shape} {name} {rest}")
        for word in dice.sample(["go", "add", "7", "ask"], dice.choice([1, 1, 2, 3])):
            numbers = dice.random() < 0.3
            low = dice.randrange(2)
            head = f"ask {word} {low} {low + dice.randrange(2)}" if numbers else f"ask {word}"
            marks = ["it"] if numbers else []
            cases = [self.case(dice.choice(["when", "may", "pick"]), marks) for _ in range(dice.choice([1, 2, 2, 3]))]
            if dice.random() < 0.8:
                cases.append("when yes answer z")
            parts.append(" : ".join([head] + cases))
        return " / ".join(parts)


def met_told(text, most=60):
    """The met states and the operations by which each was met; also ("silent", operations, ask) or ("many",)."""
    plain_thing = Plain(text)
    states, ways, place = [plain_thing.first()], [()], 0
    while place < len(states):
        given = [plain_thing.given(states[place], number) for number in range(len(plain_thing.asks))]
        for ask, told in zip(plain_thing.asks, given):
            if not told:
                return states, ways, ("silent", ways[place], ask[0])
        for ask, told in zip(plain_thing.asks, given):
            for answer, state in told:
                if state not in states:
                    states.append(state)
                    ways.append(ways[place] + ((ask[0], answer),))
                    if len(states) > most:
                        return states, ways, ("many",)
        place += 1
    return states, ways, None


def led_by(text, operations):
    """The state to which operations lead, None if they cannot be played."""
    told = Plain(text)
    state = told.first()
    words = [ask[0] for ask in told.asks]
    for ask, answer in operations:
        found = [behind for word, behind in told.given(state, words.index(ask)) if word == answer] if ask in words else []
        if not found:
            return None
        state = found[0]
    return state
