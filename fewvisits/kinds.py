"""Kinds: how a thing answers what it is asked."""

from fewvisits.checks import is_list, is_within, is_word
from fewvisits.errors import BadKind, BadText
from fewvisits.papers import fixed
from fewvisits.texts import Reader

MOST_ASKS = 8
MOST_ANSWERS = 12
MOST_STATES = 60
MOST_ROWS = 600


def are_unlike_words(value, most):
    """Whether it is a list of one to most unlike words."""
    if not is_list(value) or not 1 <= len(value) <= most or not all([is_word(item) for item in value]):
        return False
    return len({word: True for word in value}) == len(value)


def is_row(value, states, asks, answers):
    """Whether it is a list of a state, an ask, an answer and a state by their numbers."""
    if not is_list(value) or len(value) != 4:
        return False
    bounds = (states, asks, answers, states)
    return all([is_within(item, 0, many - 1) for item, many in zip(value, bounds)])


def are_whole(rows, states, asks):
    """Whether rows ascend, none twice with one state, ask and answer, one at least for each state and ask."""
    heads = [tuple(row[:3]) for row in rows]
    if not all([head < later for head, later in zip(heads, heads[1:])]):
        return False
    return len({head[:2]: True for head in heads}) == states * asks


def are_rows(value, states, asks, answers):
    """Whether it is a list of the rows of a kind with so many states, asks and answers."""
    if not is_list(value) or len(value) > MOST_ROWS:
        return False
    return all([is_row(row, states, asks, answers) for row in value]) and are_whole(value, states, asks)


def rows_read(reader, states, asks, answers):
    """Reads the rows of a kind with so many states, asks and answers, up to the end of the text."""
    rows = []
    while not reader.done():
        if len(rows) == MOST_ROWS:
            raise BadText(reader.place)
        reader.expect("/")
        rows.append([reader.integer(0, many - 1) for many in (states, asks, answers, states)])
    return rows


class Kind:
    """Asks, answers, states with a first one, and rows (state, ask, answer, next)."""

    def __init__(self, asks, answers, states, first, rows):
        if not are_unlike_words(asks, MOST_ASKS):
            raise BadKind("asks")
        if not are_unlike_words(answers, MOST_ANSWERS):
            raise BadKind("answers")
        if not is_within(states, 1, MOST_STATES):
            raise BadKind("states")
        if not is_within(first, 0, states - 1):
            raise BadKind("first")
        if not are_rows(rows, states, len(asks), len(answers)):
            raise BadKind("rows")
        self.asks = fixed(asks)
        self.answers = fixed(answers)
        self.states = fixed(states)
        self.first = fixed(first)
        self.rows = fixed(rows)
        self._behind = {row[:3]: row[3] for row in self.rows}
        self._moves = [[row[1:] for row in self.rows if row[0] == state] for state in range(states)]

    def __eq__(self, other):
        if not isinstance(other, Kind):
            return False
        if self.asks != other.asks or self.answers != other.answers:
            return False
        return self.states == other.states and self.first == other.first and self.rows == other.rows

    def __str__(self):
        asks = " ".join(self.asks)
        answers = " ".join(self.answers)
        rows = "".join([f" / {state} {ask} {answer} {behind}" for state, ask, answer, behind in self.rows])
        return f"asks {asks} / answers {answers} / states {self.states} first {self.first}{rows}"

    @staticmethod
    def read(text):
        """The kind whose text is just this one."""
        reader = Reader(text)
        reader.expect("asks")
        asks = reader.unlike_words(MOST_ASKS)
        reader.expect("/")
        reader.expect("answers")
        answers = reader.unlike_words(MOST_ANSWERS)
        reader.expect("/")
        reader.expect("states")
        states = reader.integer(1, MOST_STATES)
        reader.expect("first")
        first = reader.integer(0, states - 1)
        rows = rows_read(reader, states, len(asks), len(answers))
        if not are_whole(rows, states, len(asks)):
            raise BadText(reader.place - 1)
        return Kind(asks, answers, states, first, rows)


def need_kind(kind):
    """Raises BadKind for no kind."""
    if not isinstance(kind, Kind):
        raise BadKind("kind")


def is_operation(kind, value):
    """Whether it is a pair (ask, answer) of numbers of the kind, possible anywhere or not."""
    if not is_list(value) or len(value) != 2:
        return False
    return is_within(value[0], 0, len(kind.asks) - 1) and is_within(value[1], 0, len(kind.answers) - 1)


def behind_of(kind, state, ask, answer):
    """The state to which an operation leads from a state, None if it is not possible."""
    return kind._behind.get((state, ask, answer))


def moves_of(kind, state):
    """The rows (ask, answer, next) of a state, ascending."""
    return list(kind._moves[state])


def is_sure(kind):
    """Whether there is just one row for each state and ask."""
    need_kind(kind)
    return len(kind.rows) == kind.states * len(kind.asks)


def operations_of(kind):
    """The operations that are possible from some state, ascending."""
    need_kind(kind)
    found = {row[1:3]: True for row in kind.rows}
    return tuple(sorted(list(found)))
