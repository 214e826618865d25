"""Machines: which plans a feeder lets."""

from jawturns.checks import WORDS, check_round, is_name, is_row_of, is_whole, is_whole_from, is_word
from jawturns.errors import BadMachine, BadPlan, BadRound, BadTurn, BadWord
from jawturns.plans import MOST_DEEDS

MOST_STATES = 5
MOST_RULES = 40


class Let:
    """States with rules that say which deed may come next. It never changes."""

    def __init__(self, around, rules):
        check_round(around)
        _check_states(rules)
        names = sorted(rules)
        for state in names:
            if not _are_rules(around, names, rules[state]):
                raise BadMachine(state)
        self.around = around
        self._rules = {state: _modulo(around, rules[state]) for state in names}

    @staticmethod
    def steps(around, words, step, count):
        """Make the machine of one state that lets the words at the multiples of one turn."""
        check_round(around)
        if not is_row_of(words, 1, len(WORDS)) or not _are_unlike_words(words):
            raise BadWord(words)
        if not is_whole(step):
            raise BadTurn(step)
        if not is_whole_from(count, 1, MOST_RULES) or count * len(words) > MOST_RULES:
            raise BadMachine("start")
        turns = sorted({k * step % around for k in range(count)})
        return Let(around, {"start": [(word, turn, "start") for word in words for turn in turns]})

    @staticmethod
    def fences(around, word, left, right):
        """Make the machine that does a turn of left and a turn of right, one after the other."""
        check_round(around)
        if not is_word(word):
            raise BadWord(word)
        if not _are_unlike_turns(around, left):
            raise BadMachine("start")
        if not _are_unlike_turns(around, right):
            raise BadMachine("back")
        return Let(around, {"start": [(word, turn, "back") for turn in left],
                            "back": [(word, turn, "start") for turn in right]})

    def __eq__(self, other):
        return isinstance(other, Let) and self.around == other.around and self._rules == other._rules

    @property
    def states(self):
        """The ascending list of the names of the states."""
        return sorted(self._rules)

    @property
    def words(self):
        """The ascending list of the words that any rule has."""
        return sorted({rule[0] for rules in self._rules.values() for rule in rules})

    def rules(self, state):
        """Return the ascending list of the rules of the state."""
        # A state may be asked for by a value that cannot be a key.
        if state not in self.states:
            raise BadMachine(state)
        return list(self._rules[state])

    def state_after(self, plan):
        """Return the state behind the plan, or None if the plan is not let."""
        if plan.around != self.around:
            raise BadRound(plan.around)
        state = "start"
        last = 0
        for word, turn in plan.deeds:
            goals = {(rule[0], rule[1]): rule[2] for rule in self._rules[state]}
            state = goals.get((word, (turn - last) % self.around))
            if state is None:
                return None
            last = turn
        return state

    def many(self, length):
        """Return the number of plans with that many deeds that are let."""
        if not is_whole_from(length, 0, MOST_DEEDS):
            raise BadPlan(-1)
        return ways_on(self, length)[length]["start"]


def ways_on(let, length):
    """Return, for 0 to length deeds, a dict of how many ways to do so many lead on from a state."""
    rules = {state: let.rules(state) for state in let.states}
    ways = [{state: 1 for state in rules}]
    for done in range(length):
        ways.append({state: sum([ways[done][rule[2]] for rule in rules[state]]) for state in rules})
    return ways


def check_let(part, let):
    """Make the checks of a machine: the part's round, and words that the part has."""
    if let is None:
        return
    if let.around != part.around:
        raise BadRound(let.around)
    words = part.words
    for word in let.words:
        if word not in words:
            raise BadWord(word)


def _check_states(rules):
    """Raise BadMachine if rules is not a dict of 1 to 5 names with "start" among them."""
    if not isinstance(rules, dict) or not 1 <= len(rules) <= MOST_STATES:
        raise BadMachine("")
    if not all([is_name(state) for state in rules]):
        raise BadMachine("")
    if "start" not in rules:
        raise BadMachine("start")


def _is_rule(names, rule):
    """Tell whether rule is a tuple of a word, an integer and one of the names."""
    return (isinstance(rule, tuple) and len(rule) == 3
            and is_word(rule[0]) and is_whole(rule[1]) and rule[2] in names)


def _are_rules(around, names, rules):
    """Tell whether rules may be the rules of a state of this round and these names."""
    if not is_row_of(rules, 0, MOST_RULES):
        return False
    if not all([_is_rule(names, rule) for rule in rules]):
        return False
    return len({(rule[0], rule[1] % around) for rule in rules}) == len(rules)


def _modulo(around, rules):
    """Return the ascending tuple of the rules with turns from 0 to around - 1."""
    return tuple(sorted([(word, turn % around, goal) for word, turn, goal in rules]))


def _are_unlike_words(words):
    """Tell whether the items of the row are words, none twice."""
    return all([is_word(word) for word in words]) and len(set(words)) == len(words)


def _are_unlike_turns(around, turns):
    """Tell whether turns is a row of few enough integers that differ modulo around."""
    return (is_row_of(turns, 0, MOST_RULES) and all([is_whole(turn) for turn in turns])
            and len({turn % around for turn in turns}) == len(turns))
