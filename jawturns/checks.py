"""What an argument is, in the words that the whole program shares."""

from jawturns.errors import BadRound, BadRows, BadStanding

WORDS = ("push", "squeeze")
LETTERS = "abcdefghijklmnopqrstuvwxyz"
LONGEST_NAME = 12
LEAST_ROUND = 2
GREATEST_ROUND = 360
GREATEST_WIDTH = 10 ** 12


def is_whole(x):
    """Tell whether x is an integer; a flag is none."""
    return isinstance(x, int) and not isinstance(x, bool)


def is_whole_from(x, low, high):
    """Tell whether x is an integer from low to high."""
    return is_whole(x) and low <= x <= high


def is_row(x):
    """Tell whether x is a row: a list or a tuple."""
    return isinstance(x, (list, tuple))


def is_row_of(x, low, high):
    """Tell whether x is a row of low to high things."""
    return is_row(x) and low <= len(x) <= high


def is_word(x):
    """Tell whether x is a word."""
    return x in WORDS


def is_deed(x):
    """Tell whether x is a deed or a step: a tuple of a word and an integer."""
    return isinstance(x, tuple) and len(x) == 2 and is_word(x[0]) and is_whole(x[1])


def is_name(x):
    """Tell whether x is a name."""
    return (isinstance(x, str) and 1 <= len(x) <= LONGEST_NAME
            and all([letter in LETTERS for letter in x]))


def check_round(around):
    """Raise BadRound if around is no number of places."""
    if not is_whole_from(around, LEAST_ROUND, GREATEST_ROUND):
        raise BadRound(around)


def check_widths(widths):
    """Raise BadRows for the first item of the row that is no width."""
    for at, width in enumerate(widths):
        if not is_whole_from(width, 0, GREATEST_WIDTH):
            raise BadRows(at)


def checked_standings(around, standings):
    """Return the standings of the row, or all places for None, as a new list."""
    if standings is None:
        return list(range(around))
    if not is_row(standings):
        raise BadStanding(-1)
    for standing in standings:
        if not is_whole_from(standing, 0, around - 1):
            raise BadStanding(standing)
    return list(standings)
