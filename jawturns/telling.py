"""Kinds told apart by the widths that the jaws show."""

from jawturns.checks import is_row_of, is_whole, is_whole_from
from jawturns.errors import BadLog, BadPlan, BadRound, BadStanding, BadWord
from jawturns.games import Game, choice
from jawturns.kindlots import KindLots, check_shown

LONGEST_LOG = 40
MOST_SQUEEZES = 12


def shows(part, plan, standing):
    """Return the list of the widths that the plan shows for a part that stands there at first."""
    check_shown([part])
    if plan.around != part.around:
        raise BadRound(plan.around)
    for at, (word, _) in enumerate(plan.deeds):
        if word != "squeeze":
            raise BadPlan(at)
    if not is_whole(standing):
        raise BadStanding(standing)
    squeeze = part["squeeze"]
    widths = part.widths
    shown = []
    for _, turn in plan.deeds:
        rest = squeeze(standing - turn)
        shown.append(widths[rest])
        standing = rest + turn
    return shown


def fits(parts, log):
    """Return the ascending list of the pairs (kind, beginning) that show the widths of the log."""
    return [(kind, begin) for kind, begin, _ in _walks(parts, log)]


def where(parts, log):
    """Return the ascending list of the pairs (kind, standing) that may be behind the log."""
    return sorted({(kind, standing) for kind, _, standing in _walks(parts, log)})


def tell(parts, let, *, most=12, settled=False):
    """Return (worst, tree) with the least worst number of squeezes, or None if it is more than most."""
    lots = _checked_lots(parts, let, settled)
    _check_most(most)
    if lots.all_told():
        return 0, ("kind", 0)
    game = Game(lots, most)
    if game.worst is None:
        return None
    return game.worst, _inner_tree(game, game.first_steps, 0)


def is_tell(parts, let, worst, thing, *, settled=False):
    """Tell whether thing is a right tree whose number is at most worst."""
    lots = _checked_lots(parts, let, settled)
    if not is_whole_from(worst, 0, MOST_SQUEEZES):
        return False
    return _is_right(lots, None, 0, worst, thing)


def delay(parts, let, *, most=12, settled=False):
    """Return a dict that shows that no right tree has a lesser number than that of `tell`."""
    lots = _checked_lots(parts, let, settled)
    _check_most(most)
    if lots.all_told():
        return {}
    game = Game(lots, most)
    number = most if game.worst is None else game.worst - 1
    return {lot: min(number, game.numbers.get(lot, number)) for lot in sorted(game.table)}


def is_delay(parts, let, length, thing, *, settled=False):
    """Tell whether thing is a delay for the length."""
    lots = _checked_lots(parts, let, settled)
    if not is_whole(length) or not isinstance(thing, dict):
        return False
    if length == 0:
        return len(thing) == 0
    if length < 0 or lots.all_told():
        return False
    for lot, number in thing.items():
        if not lots.is_node(lot) or not is_whole(number) or number < 0:
            return False
    for rule in lots.book.first_rules():
        if not _has_number(thing, lots.begun(rule), length - 1):
            return False
    return all([number == 0 or _is_delayed(lots, lot, thing) for lot, number in thing.items()])


def _is_delayed(lots, lot, numbers):
    """Tell whether the lot is not told, and each step may lead to a number less by at most 1."""
    if lots.is_end(lot):
        return False
    return all([_has_number(numbers, lots.moved(lot, rule), numbers[lot] - 1)
                for rule in lots.book.rules_of(lot[0])])


def _has_number(numbers, goals, least):
    """Tell whether one of the lots has a number of at least the least one."""
    return any([goal in numbers and numbers[goal] >= least for goal in goals.values()])


def _checked_lots(parts, let, settled):
    """Return the lots of the kinds behind the checks of the kinds and of the machine."""
    check_shown(parts)
    if let.around != parts[0].around:
        raise BadRound(let.around)
    if "push" in let.words:
        raise BadWord("push")
    return KindLots(parts, let, settled)


def _check_most(most):
    """Raise BadPlan if most is not an integer from 0 to 12."""
    if not is_whole_from(most, 0, MOST_SQUEEZES):
        raise BadPlan(-1)


def _check_log(log):
    """Raise BadLog if log is not a row of at most 40 tuples of two integers."""
    if not is_row_of(log, 0, LONGEST_LOG):
        raise BadLog(-1)
    for at, pair in enumerate(log):
        if not isinstance(pair, tuple) or len(pair) != 2 or not is_whole(pair[0]) or not is_whole(pair[1]):
            raise BadLog(at)


def _walks(parts, log):
    """Return the list of all (kind, beginning, standing) that show the widths of the log."""
    check_shown(parts)
    _check_log(log)
    walks = []
    for kind, part in enumerate(parts):
        squeeze = part["squeeze"]
        widths = part.widths
        left = [(begin, begin) for begin in range(part.around)]
        for turn, width in log:
            rests = [(begin, squeeze(standing - turn)) for begin, standing in left]
            left = [(begin, (rest + turn) % part.around) for begin, rest in rests if widths[rest] == width]
        walks.extend([(kind, begin, standing) for begin, standing in left])
    return walks


def _inner_tree(game, steps, last):
    """Return the best tree for these steps behind a squeeze at the turn last."""
    _, turn, goals = choice(steps, game.numbers)
    absolute = (last + turn) % game.lots.around
    return "squeeze", absolute, {game.lots.width_of(lot): _tree(game, lot, absolute) for lot in goals}


def _tree(game, lot, last):
    """Return the best tree for the lot behind a squeeze at the turn last."""
    if game.lots.is_end(lot):
        return "kind", lot[1][0][0]
    return _inner_tree(game, game.table[lot], last)


def _is_right(lots, lot, last, worst, thing):
    """Tell whether thing is a right tree of at most that number; lot is None before any squeeze."""
    if not isinstance(thing, tuple):
        return False
    if len(thing) == 2:
        return thing[0] == "kind" and _is_right_leaf(lots, lot, thing[1])
    if len(thing) != 3 or thing[0] != "squeeze" or worst < 1:
        return False
    _, turn, branches = thing
    if not is_whole_from(turn, 0, lots.around - 1) or not isinstance(branches, dict):
        return False
    rule = lots.book.rule("start" if lot is None else lot[0], ("squeeze", turn - last))
    if rule is None:
        return False
    goals = lots.begun(rule) if lot is None else lots.moved(lot, rule)
    if not all([is_whole(width) and width in goals for width in branches]) or len(branches) != len(goals):
        return False
    return all([_is_right(lots, goals[width], turn, worst - 1, branches[width]) for width in goals])


def _is_right_leaf(lots, lot, kind):
    """Tell whether what is left is told and of this kind."""
    if not is_whole(kind):
        return False
    if lot is None:
        return lots.all_told() and kind == 0
    return lots.is_end(lot) and kind == lot[1][0][0]
