"""The errors of the package, all directly below FewError."""


class FewError(ValueError):
    """The base of all errors of the package."""


class BadNumber(FewError):
    """A number that is none, or not within its bounds."""

    def __init__(self, part):
        self.part = part


class BadLot(FewError):
    """A lot that is none."""

    def __init__(self, part):
        self.part = part


class BadKind(FewError):
    """No kind, or a part that no kind has."""

    def __init__(self, part):
        self.part = part


class BadValue(FewError):
    """A value of another class than the one that is wanted."""

    def __init__(self, part):
        self.part = part


class BadSpread(FewError):
    """No spread, or a part that no spread has."""

    def __init__(self, part):
        self.part = part


class BadOrder(FewError):
    """No order of the deals that are ended."""

    def __init__(self, part):
        self.part = part


class BadLog(FewError):
    """A log or a record that cannot stand."""

    def __init__(self, part):
        self.part = part


class BadPairs(FewError):
    """No list of unlike pairs of unlike deals."""

    def __init__(self, part):
        self.part = part


class BadProgram(FewError):
    """A part that no program has."""

    def __init__(self, part):
        self.part = part


class BadScript(FewError):
    """No script."""

    def __init__(self, part):
        self.part = part


class Misfit(FewError):
    """Parts that do not fit together."""

    def __init__(self, part):
        self.part = part


class BadEvents(FewError):
    """The event with this index is the first that cannot stand."""

    def __init__(self, at):
        self.at = at


class TooMany(FewError):
    """There are more of these than most."""

    def __init__(self, what, most):
        self.what = what
        self.most = most


class Impossible(FewError):
    """It cannot be; the paper shows why."""

    def __init__(self, paper):
        self.paper = paper


class Full(FewError):
    """There is no room."""

    def __init__(self, what):
        self.what = what


class Out(FewError):
    """The plug is out."""


class BadText(FewError):
    """The item with this index is the first that cannot stand."""

    def __init__(self, item):
        self.item = item
