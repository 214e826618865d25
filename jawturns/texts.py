"""Texts of plans, turnings and machines, and what is read from them."""

from jawturns.checks import GREATEST_ROUND, LEAST_ROUND, is_name, is_word
from jawturns.errors import BadMachine, BadRows, BadText
from jawturns.machines import MOST_RULES, MOST_STATES, Let
from jawturns.plans import MOST_DEEDS, Plan
from jawturns.turnings import MOST_PAIRS, Turning

LONGEST_NUMBER = 3


def plan_text(plan):
    """Return the text of a plan."""
    if not plan.deeds:
        return f"{plan.around}:"
    pieces = "; ".join([f"{word} {turn}" for word, turn in plan.deeds])
    return f"{plan.around}: {pieces}"


def turning_text(turning):
    """Return the text of a turning."""
    pieces = " ".join([f"{begin}-{rest}" for begin, rest in turning.rows])
    return f"{turning.around}: {pieces}"


def let_text(let):
    """Return the text of a machine."""
    pieces = "; ".join([_state_text(state, let.rules(state)) for state in let.states])
    return f"{let.around}: {pieces}"


def _state_text(state, rules):
    """Return the piece of a state with these rules."""
    if not rules:
        return f"{state}:"
    told = ", ".join([f"{word} {turn} {goal}" for word, turn, goal in rules])
    return f"{state}: {told}"


def read_plan(text):
    """Return the plan that has this text."""
    around, body = _parted(text)
    if body == "":
        return Plan(around, [])
    deeds = []
    for at, piece in enumerate(_inner(body).split("; "), 1):
        deed = _deed(around, piece)
        if deed is None or at > MOST_DEEDS:
            raise BadText(at)
        deeds.append(deed)
    return Plan(around, deeds)


def read_turning(text):
    """Return the turning that has this text."""
    around, body = _parted(text)
    pairs = []
    before = -1
    for at, piece in enumerate(_inner(body).split(" "), 1):
        pair = _pair(around, piece)
        if pair is None or pair[0] <= before or at > MOST_PAIRS:
            raise BadText(at)
        before = pair[0]
        pairs.append(pair)
    try:
        return Turning(around, pairs)
    except BadRows as e:
        # By now only a rest that lies in no stretch of its own can be refused.
        raise BadText(e.at + 1) from None


def read_let(text):
    """Return the machine that has this text."""
    around, body = _parted(text)
    rules = {}
    before = ""
    for at, piece in enumerate(_inner(body).split("; "), 1):
        state = piece.partition(":")[0]
        told = _rules(around, piece)
        if told is None or state <= before or at > MOST_STATES:
            raise BadText(at)
        before = state
        rules[state] = told
    if "start" not in rules:
        raise BadText(0)
    try:
        return Let(around, rules)
    except BadMachine as e:
        # By now only a rule that leads to no state can be refused.
        raise BadText(list(rules).index(e.state) + 1) from None


def _parted(text):
    """Return the round that the text tells, and the characters behind its first colon."""
    if not isinstance(text, str):
        raise BadText(0)
    head, colon, body = text.partition(":")
    around = _number(head, GREATEST_ROUND)
    if colon == "" or around is None or around < LEAST_ROUND:
        raise BadText(0)
    return around, body


def _inner(body):
    """Return the body behind the space that it must begin with."""
    if not body.startswith(" "):
        raise BadText(1)
    return body[1:]


def _number(text, most):
    """Return the number from 0 to most that is written so, or None if there is none."""
    if len(text) > LONGEST_NUMBER or not text.isdecimal():
        return None
    number = int(text)
    # Only the text without leading zeros is the number's own.
    if number > most or str(number) != text:
        return None
    return number


def _deed(around, piece):
    """Return the deed of a plan's piece, or None if it is bad."""
    words = piece.split(" ")
    if len(words) != 2 or not is_word(words[0]):
        return None
    turn = _number(words[1], around - 1)
    if turn is None:
        return None
    return words[0], turn


def _pair(around, piece):
    """Return the pair of a turning's piece, or None if it is bad."""
    numbers = [_number(number, around - 1) for number in piece.split("-")]
    if len(numbers) != 2 or None in numbers:
        return None
    return numbers[0], numbers[1]


def _rules(around, piece):
    """Return the list of the rules of a machine's piece, or None if it is bad."""
    state, colon, told = piece.partition(":")
    if colon == "" or not is_name(state):
        return None
    if told == "":
        return []
    if not told.startswith(" "):
        return None
    rules = [_rule(around, rule) for rule in told[1:].split(", ")]
    if None in rules or len(rules) > MOST_RULES:
        return None
    steps = [(word, turn) for word, turn, goal in rules]
    if steps != sorted(set(steps)):
        return None
    return rules


def _rule(around, text):
    """Return the rule that is written so, whatever name its next state has, or None if it is bad."""
    words = text.split(" ")
    if len(words) != 3 or not is_name(words[2]):
        return None
    deed = _deed(around, f"{words[0]} {words[1]}")
    if deed is None:
        return None
    return deed[0], deed[1], words[2]
