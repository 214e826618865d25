"""Slow definitions of machines, stands and rows, word by word as the document tells them."""

from tests.helpers import slow_period, table


class SlowWord:
    """The rests of one word of a part as point 40 numbers them."""

    def __init__(self, part, word):
        self.lifted = table(part.around, part[word].rows)
        self.span = slow_period(part.around, [table(part.around, part[one].rows) for one in part.words])
        self.rests = [x for x in range(self.span) if self.lifted(x) == x]
        self.m = len(self.rests)

    def rest(self, k):
        return self.rests[k % self.m] + k // self.m * self.span

    def number(self, place):
        [found] = [k for k in range(place // self.span * self.m, (place // self.span + 1) * self.m)
                   if self.rest(k) == place]
        return found


class SlowPart:
    """The stands of one part as points 40 to 45 tell them."""

    def __init__(self, part, let=None):
        self.around = part.around
        self.words = {word: SlowWord(part, word) for word in part.words}
        self.span = self.words[part.words[0]].span
        self.let = let

    def rules(self, state):
        if self.let is None:
            return [(word, b, "") for word in sorted(self.words) for b in range(self.span)]
        return self.let.rules(state)

    def firsts(self):
        found = []
        for word, _, goal in self.rules("start"):
            m = self.words[word].m
            found.extend([(goal, word, i, i + m - 1) for i in range(m)])
        return sorted(set(found))

    def next(self, stand, rule):
        _, word, i, j = stand
        v, b, goal = rule
        one, other = self.words[word], self.words[v]
        k = other.number(other.lifted(one.rest(i) - b))
        far = other.number(other.lifted(one.rest(j) - b))
        if far == k + other.m:
            return None
        t = k // other.m
        return (goal, v, k - t * other.m, far - t * other.m)

    def moves(self, stand):
        return [(rule[0], rule[1], self.next(stand, rule)) for rule in self.rules(stand[0])]

    def is_end(self, stand):
        return stand[2] == stand[3]

    def empty_does(self):
        return self.span == 1

    def all_nodes(self):
        states = [""] if self.let is None else self.let.states
        return [(state, word, i, j) for state in states for word in sorted(self.words)
                for i in range(self.words[word].m) for j in range(i, i + self.words[word].m)]


class SlowRows:
    """The rows of several kinds as points 54 and 55 tell them."""

    def __init__(self, parts, let, spread=0):
        self.parts = parts
        self.kinds = [{word: SlowWord(part, word) for word in part.words} for part in parts]
        self.let = let
        self.spread = spread

    def firsts(self):
        return sorted({(goal, word, tuple([tuple(range(kind[word].m)) for kind in self.kinds]))
                       for word, _, goal in self.let.rules("start")})

    def next(self, row, rule):
        _, word, lefts = row
        v, b, goal = rule
        behind = []
        for kind, left in zip(self.kinds, lefts):
            found = set()
            for i in left:
                for x in range(-self.spread, self.spread + 1):
                    place = kind[v].lifted(kind[word].rest(i) - b + x)
                    found.add(kind[v].number(place) % kind[v].m)
            behind.append(tuple(sorted(found)))
        return (goal, v, tuple(behind))

    def moves(self, row):
        return [(rule[0], rule[1], self.next(row, rule)) for rule in self.let.rules(row[0])]

    def is_end(self, row):
        return False


class SlowSeveral(SlowRows):
    """Rows whose ends are those of point 57."""

    def __init__(self, parts, let, unlike=False):
        SlowRows.__init__(self, parts, let)
        self.unlike = unlike

    def empty_does(self):
        return not self.unlike and all(part.period == 1 for part in self.parts)

    def is_end(self, row):
        if any(len(left) != 1 for left in row[2]):
            return False
        around = self.parts[0].around
        places = [{(kind[row[1]].rest(left[0]) + k * kind[row[1]].span) % around for k in range(around)}
                  for kind, left in zip(self.kinds, row[2])]
        pairs = [(one, other) for at, one in enumerate(places) for other in places[:at]]
        return not self.unlike or not any(one & other for one, other in pairs)


class SlowSame(SlowRows):
    """Rows of two parts whose ends are those that part them."""

    def empty_does(self):
        return (self.parts[0].period == 1) != (self.parts[1].period == 1)

    def is_end(self, row):
        return (len(row[2][0]) == 1) != (len(row[2][1]) == 1)


def come_to(field):
    """All nodes that are come to; from ends no step is followed."""
    found = list(field.firsts())
    for node in found:
        if not field.is_end(node):
            for _, _, goal in field.moves(node):
                if goal is not None and goal not in found:
                    found.append(goal)
    return sorted(found)


def far_from_ends(field, nodes):
    """The least number of steps to an end for each of the nodes, or None."""
    far = {node: 0 if field.is_end(node) else None for node in nodes}
    moves = {node: [] if field.is_end(node) else field.moves(node) for node in nodes}
    for _ in nodes:
        for node in nodes:
            for _, _, goal in moves[node]:
                if goal is not None and far[goal] is not None:
                    if far[node] is None or far[node] > far[goal] + 1:
                        far[node] = far[goal] + 1
    return far


def slow_paper(field, least):
    """The paper of points 51 and 59 for the least length."""
    if least == 0:
        return {}
    nodes = come_to(field)
    far = far_from_ends(field, nodes)
    return {node: least - 1 if far[node] is None else min(far[node], least - 1)
            for node in nodes if not field.is_end(node)}


def judged_paper(field, length, thing):
    """Points 46 and 59 for a dict whose keys are nodes or strange and whose values may be strange."""
    if type(length) is not int or type(thing) is not dict:
        return False
    if length == 0:
        return thing == {}
    if length < 1 or field.empty_does():
        return False
    nodes = field.all_nodes()
    for key, number in thing.items():
        if not is_one_of(key, nodes) or field.is_end(key) or type(number) is not int or number < 0:
            return False
    for node in field.firsts():
        if field.is_end(node):
            if length >= 2:
                return False
        elif node not in thing or thing[node] < length - 1:
            return False
    for key in thing:
        for _, _, goal in field.moves(key):
            if goal is None:
                continue
            if field.is_end(goal):
                if thing[key] > 1:
                    return False
            elif goal not in thing or thing[key] > thing[goal] + 1:
                return False
    return True


def judged_stuck(field, thing):
    """Points 47, 60 and 63 for a list of nodes or strange things."""
    if type(thing) is not list or field.empty_does():
        return False
    nodes = field.all_nodes()
    for at, item in enumerate(thing):
        if not is_one_of(item, nodes) or field.is_end(item) or item in thing[:at]:
            return False
    goals = list(field.firsts())
    for item in thing:
        goals.extend([goal for _, _, goal in field.moves(item)])
    return all(goal is None or goal in thing for goal in goals)


def is_one_of(thing, nodes):
    """Tell whether thing is one of the nodes, to the kinds of its parts."""
    return any(repr(thing) == repr(node) for node in nodes)


def let_plans(let, length):
    """The ascending list of the deeds of all plans of that length that a machine lets."""
    walks = [((), "start", 0)]
    for _ in range(length):
        walks = [(deeds + ((word, (last + turn) % let.around),), goal, (last + turn) % let.around)
                 for deeds, state, last in walks for word, turn, goal in let.rules(state)]
    return sorted(deeds for deeds, _, _ in walks)


def free_plans(part, length):
    """The ascending list of the deeds of all plans of that length."""
    walks = [()]
    for _ in range(length):
        walks = [deeds + ((word, turn),) for deeds in walks for word in part.words
                 for turn in range(part.around)]
    return walks
