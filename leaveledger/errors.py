"""The errors of the program; each keeps its argument as an attribute of that name."""


class LeaveError(ValueError):
    """What every error of the program stands under."""


class BadText(LeaveError):
    """The tokens are not a text of the grammar; at is the number of tokens in front of the first wrong one."""

    def __init__(self, at):
        super().__init__(f"no text goes on so behind {at} tokens")
        self.at = at


class BadTree(LeaveError):
    """A tree does not have the form of a book."""


class NotLet(LeaveError):
    """A book has a fault; fault is the pair of the line's number and what is wrong with it."""

    def __init__(self, fault):
        super().__init__(f"the book has the fault {fault}")
        self.fault = fault


class BadWorld(LeaveError):
    """A triple breaks a rule of worlds; part is that triple."""

    def __init__(self, part):
        # The part may be anything, also what is nested too deep to be written.
        super().__init__("a triple breaks a rule of worlds")
        self.part = part


class BadAsk(LeaveError):
    """An ask does not fit; part is the number of its first part that does not."""

    def __init__(self, part):
        super().__init__(f"part {part} of the ask does not fit")
        self.part = part


class BadDeed(LeaveError):
    """A deed cannot be done."""


class NoName(LeaveError):
    """Nothing of the sort that is wanted has this name."""

    def __init__(self, name):
        super().__init__(f"nothing is called {name}")
        self.name = name


class Unlike(LeaveError):
    """Two things are not of one plan."""


class BadClaim(LeaveError):
    """A claim does not fit the book."""


class Unmet(LeaveError):
    """A need does not hold; need is its number."""

    def __init__(self, need):
        super().__init__(f"need {need} does not hold")
        self.need = need


class Refused(LeaveError):
    """Somebody may not do a deed."""


class BadRow(LeaveError):
    """A row could not be entered; number is its number."""

    def __init__(self, number):
        super().__init__(f"row {number} could not be entered")
        self.number = number


class LimitError(LeaveError):
    """What the errors about too many and too large things stand under."""


class TooMany(LimitError):
    """There are too many things of the sort that part names."""

    def __init__(self, part):
        super().__init__(f"too many of {part}")
        self.part = part


class TooLarge(LimitError):
    """A thing of the sort that part names is too large."""

    def __init__(self, part):
        super().__init__(f"too large a {part}")
        self.part = part
