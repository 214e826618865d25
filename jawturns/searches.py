"""Searches that stands and rows share, and the judges of what such searches tell.

What is searched is a field: an object with the round `around`, the rules `book`, and the methods
firsts(), onward(node), is_end(node), is_node(thing) and empty_does(). Its nodes are stands or rows.
"""

from jawturns.checks import is_whole
from jawturns.errors import NoPlan, TooMany
from jawturns.plans import MOST_DEEDS, Plan


class Search:
    """What is come to in a field, no further than to ends, and how far the ends are."""

    def __init__(self, field):
        self.table = reached(field)
        self.ways = _ways_to_ends(field, self.table)
        self.least = _least(field, self.ways)


def reached(field, limit=None):
    """Return a dict of the nodes that are come to, each with its steps; an end has none.

    Raise TooMany(limit) if there are more nodes than the limit.
    """
    table = {}
    waiting = [step[2] for step in field.firsts()]
    while waiting:
        node = waiting.pop()
        if node in table:
            continue
        table[node] = [] if field.is_end(node) else field.onward(node)
        if limit is not None and len(table) > limit:
            raise TooMany(limit)
        # A lost cut leads to None.
        waiting.extend([step[2] for step in table[node] if step[2] is not None and step[2] not in table])
    return table


def _ways_to_ends(field, table):
    """Return a dict of the least numbers of steps to an end, of the nodes that lead to one."""
    before = {node: [] for node in table}
    for node in table:
        for step in table[node]:
            if step[2] is not None:
                before[step[2]].append(node)
    layer = [node for node in table if field.is_end(node)]
    ways = {node: 0 for node in layer}
    while layer:
        further = []
        for goal in list(layer):
            for node in before[goal]:
                if node not in ways:
                    ways[node] = ways[goal] + 1
                    further.append(node)
        layer = further
    return ways


def _least(field, ways):
    """Return the least number of deeds to an end, or None."""
    if field.empty_does():
        return 0
    return min([ways[step[2]] + 1 for step in field.firsts() if step[2] in ways], default=None)


def least_number(field):
    """Return the least number of deeds to an end, or None."""
    return Search(field).least


def least_plan(field):
    """Return the least one of the shortest plans to an end, or None if there is none."""
    search = Search(field)
    if search.least is None:
        return None
    if search.least > MOST_DEEDS:
        raise TooMany(MOST_DEEDS)
    deeds = []
    last = 0
    onward = field.firsts()
    for left in reversed(range(search.least)):
        # Of several cuts only those count that are closed at the end of a shortest plan.
        fit = [(step[0], (last + step[1]) % field.book.lap, step[2]) for step in onward
               if search.ways.get(step[2]) == left]
        deed = min([(word, turn) for word, turn, node in fit])
        nodes = sorted({node for word, turn, node in fit if (word, turn) == deed})
        onward = [step for node in nodes for step in search.table[node]]
        last = deed[1]
        deeds.append(deed)
    return Plan(field.around, deeds)


def shortest_of(field):
    """Return the least one of the shortest plans to an end, or raise NoPlan."""
    plan = least_plan(field)
    if plan is None:
        raise NoPlan()
    return plan


def paper_of(field):
    """Return the paper for the least number of deeds, or raise NoPlan."""
    search = Search(field)
    if search.least is None:
        raise NoPlan()
    if search.least == 0:
        return {}
    most = search.least - 1
    nodes = sorted([node for node in search.table if not field.is_end(node)])
    return {node: min(most, search.ways.get(node, most)) for node in nodes}


def stuck_of(field):
    """Return the ascending list of all nodes that are come to, or None if some plan leads to an end."""
    search = Search(field)
    if search.least is not None:
        return None
    return sorted(search.table)


def is_paper_of(field, length, thing):
    """Tell whether thing shows that no plan to an end has fewer deeds than the length."""
    if not is_whole(length) or not isinstance(thing, dict):
        return False
    if length == 0:
        return len(thing) == 0
    if length < 0 or field.empty_does():
        return False
    for node, number in thing.items():
        if not field.is_node(node) or field.is_end(node) or not is_whole(number) or number < 0:
            return False
    if not _begins_well(field, length, thing):
        return False
    for node in thing:
        if not _goes_on_well(field, node, thing):
            return False
    return True


def _begins_well(field, length, paper):
    """Tell whether the first nodes are far enough from an end for a paper of this length."""
    for step in field.firsts():
        if field.is_end(step[2]):
            if length >= 2:
                return False
        elif paper.get(step[2], -1) < length - 1:
            return False
    return True


def _goes_on_well(field, node, paper):
    """Tell whether no step from the node brings the numbers down by more than 1."""
    number = paper[node]
    for step in field.onward(node):
        if step[2] is None:
            continue
        if field.is_end(step[2]):
            if number > 1:
                return False
        elif step[2] not in paper or number > paper[step[2]] + 1:
            return False
    return True


def is_stuck_of(field, thing):
    """Tell whether thing is a list that shows that no plan leads to an end."""
    if not isinstance(thing, list) or field.empty_does():
        return False
    items = {}
    for node in thing:
        if not field.is_node(node) or field.is_end(node) or node in items:
            return False
        items[node] = True
    goals = field.firsts() + [step for node in thing for step in field.onward(node)]
    return all([step[2] is None or step[2] in items for step in goals])
