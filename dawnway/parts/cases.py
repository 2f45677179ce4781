"""Cases of deeds that wait for feeders: in each course the bounds of one case of each deed hold."""

from dawnway.base.names import DAWN, is_integer, is_pair
from dawnway.net.paths import is_ring, least_sums

# No event is called so: sums begin here.
_START = ""


class CaseBook:
    """The bounds of works and deeds, and trees of cases that show what no course makes true."""

    def __init__(self, works, deeds):
        self._works = works
        self._deeds = deeds

    def cases(self, deed):
        """The cases of a deed, ascending."""
        feeders = self._deeds[deed][1]
        sides = [()]
        for _ in feeders:
            sides = [(*side, word) for side in sides for word in ("come", "over")]
        return [(side, top) for side in sides for top in range(-1, len(feeders))]

    def case_bounds(self, deed, case):
        """The bounds that hold exactly if the case of the deed does, and that tell its tick."""
        due, feeders = self._deeds[deed]
        sides, top = case
        bounds = [(deed, DAWN, -due)]
        tops = [(DAWN, deed, due)]
        for (feeder, walk, wait), side in zip(feeders, sides):
            until = due + wait
            if side == "come":
                bounds.extend([(DAWN, feeder, until - walk), (deed, feeder, -walk)])
                tops.append((feeder, deed, walk))
            else:
                bounds.extend([(feeder, DAWN, walk - until - 1), (deed, DAWN, -until)])
                tops.append((DAWN, deed, until))
        return [*bounds, tops[top + 1]]

    def found(self, edge, events, deeds):
        """Any lengths with which the bound of a question holds, or any tree that shows that there are none.

        These are all events and all deeds on which the question hangs; cases are told in the order of the deeds.
        """
        works = self._works
        edges = [bound for name in works if works[name][1] in events for bound in self._work_bounds(name)]
        edges.extend([(event, DAWN, 0) for event in events])
        return self._found([*edges, edge], {event: 0 for event in (DAWN, *events)}, deeds)

    def is_tree(self, edge, value):
        """Whether the value is a tree of the question with this bound."""
        told_anyway = [edge, *[(deed, DAWN, 0) for deed in self._deeds]]
        for name in self._works:
            told_anyway.extend([*self._work_bounds(name), (self._works[name][1], DAWN, 0)])
        allowed = {bound: True for bound in told_anyway}
        left = [(value, {})]
        while left != []:
            node, told = left.pop()
            if not is_pair(node) or node[0] != "ring":
                if not self._is_branching(node, told):
                    return False
                _, deed, trees = node
                for case, tree in zip(self.cases(deed), trees):
                    left.append((tree, {**told, deed: case}))
            elif not self._is_told_ring(allowed, told, node[1]):
                return False
        return True

    def _work_bounds(self, name):
        begin, end, least, most = self._works[name]
        return [(begin, end, most), (end, begin, -least)]

    def _found(self, edges, ticks, deeds):
        """Any lengths with which the bounds hold, or any tree. The ticks keep all of them but the last ones."""
        starts = [(_START, event, ticks[event]) for event in ticks]
        sums, ring = least_sums([*edges, *starts], _START)
        if ring is not None:
            return "tree", ("ring", tuple([edges[index] for index in ring]))
        if deeds == []:
            return "course", self._lengths(sums)
        ticks = {event: sums[event] for event in ticks}
        trees = []
        for case in self.cases(deeds[0]):
            kind, found = self._found([*edges, *self.case_bounds(deeds[0], case)], ticks, deeds[1:])
            if kind == "course":
                return kind, found
            trees.append(found)
        return "tree", ("deed", deeds[0], tuple(trees))

    def _lengths(self, ticks):
        """The lengths of the works whose ends have ticks."""
        works = self._works
        return {name: ticks[works[name][1]] - ticks[works[name][0]] for name in works if works[name][1] in ticks}

    def _is_branching(self, value, told):
        """Whether the value has a deed whose case is not told, and as many trees as it has cases."""
        if not isinstance(value, tuple) or len(value) != 3 or value[0] != "deed":
            return False
        _, deed, trees = value
        if not isinstance(deed, str) or deed not in self._deeds or deed in told or not isinstance(trees, tuple):
            return False
        return len(trees) == len(self.cases(deed))

    def _is_told_ring(self, allowed, told, value):
        """Whether the value is a ring of bounds that are allowed, or those of told cases."""
        if not isinstance(value, tuple) or len(value) < 2 or not all([_is_bound(bound) for bound in value]):
            return False
        cases = [bound for deed in told for bound in self.case_bounds(deed, told[deed])]
        return all([bound in allowed or bound in cases for bound in value]) and is_ring(value)


def _is_bound(value):
    """Whether the value is a triple of two strings and an integer."""
    if not isinstance(value, tuple) or len(value) != 3:
        return False
    first, second, most = value
    return isinstance(first, str) and isinstance(second, str) and is_integer(most)
