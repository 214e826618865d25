"""The errors of the program, each one directly under JawError.

The messages do not show the refused value: an integer of some thousand digits has no text.
"""


class JawError(ValueError):
    """The base class of all errors of the program."""


class BadRound(JawError):
    """No valid round, or not the same one."""

    def __init__(self, value):
        super().__init__("no valid round, or not the same one")
        self.value = value


class BadRows(JawError):
    """Bad rows of a turning, or bad widths."""

    def __init__(self, at):
        super().__init__("bad rows of a turning, or bad widths")
        self.at = at


class BadTurn(JawError):
    """No valid turn."""

    def __init__(self, value):
        super().__init__("no valid turn")
        self.value = value


class BadStanding(JawError):
    """No valid standing."""

    def __init__(self, value):
        super().__init__("no valid standing")
        self.value = value


class BadWord(JawError):
    """No valid word, or none that is had here."""

    def __init__(self, value):
        super().__init__("no valid word, or none that is had here")
        self.value = value


class BadSlack(JawError):
    """No valid number for a slack."""

    def __init__(self, value):
        super().__init__("no valid number for a slack")
        self.value = value


class BadPlan(JawError):
    """No valid plan, or no such deed."""

    def __init__(self, at):
        super().__init__("no valid plan, or no such deed")
        self.at = at


class BadKinds(JawError):
    """No valid row of kinds."""

    def __init__(self, at):
        super().__init__("no valid row of kinds")
        self.at = at


class BadLog(JawError):
    """No valid log."""

    def __init__(self, at):
        super().__init__("no valid log")
        self.at = at


class BadText(JawError):
    """A text that nothing is read from."""

    def __init__(self, at):
        super().__init__("a text that nothing is read from")
        self.at = at


class BadMachine(JawError):
    """No valid machine, or no such state."""

    def __init__(self, state):
        super().__init__("no valid machine, or no such state")
        self.state = state


class TooMany(JawError):
    """More than the limit."""

    def __init__(self, limit):
        super().__init__("more than the limit")
        self.limit = limit


class NoPlan(JawError):
    """No plan does what is asked."""


class NothingDone(JawError):
    """There is no step to take back."""
