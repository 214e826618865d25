"""The steps that a feeder lets in each of its states, with a machine or without one."""

from jawturns.checks import is_deed


class Rulebook:
    """Rules (word, turn, next state) by states; without a machine, every step of a period."""

    def __init__(self, let, words, span):
        if let is None:
            self.begin = ""
            self.lap = span
            self._rules = {"": [(word, turn, "") for word in words for turn in range(span)]}
        else:
            self.begin = "start"
            self.lap = let.around
            self._rules = {state: let.rules(state) for state in let.states}
        self._found = {}
        for state in self._rules:
            for rule in self._rules[state]:
                self._found[(state, rule[0], rule[1])] = rule

    def has_state(self, thing):
        """Tell whether thing is one of the states."""
        return thing in list(self._rules)

    def rules_of(self, state):
        """Return the ascending list of the rules of the state."""
        return list(self._rules[state])

    def first_rules(self):
        """Return the ascending list of the rules for the first deed."""
        return list(self._rules[self.begin])

    def rule(self, state, step):
        """Return the rule of the state that is this step, or None if there is none."""
        if not is_deed(step):
            return None
        return self._found.get((state, step[0], step[1] % self.lap))
