"""The search for the least places that meet all needs.

A state gives the least places that its literals allow. Where these meet all
needs, nothing less does; where they do not, the state is cut in two by a literal
that they do not meet.
"""

from heapq import heappop, heappush

from partwise.literals import mirrored, opposite
from partwise.states import State

# No way is left to meet a need.
NO_WAY = (0, None, None)


class Problem:
    """Unknowns with the ends of their places, those that are never None, and needs."""

    def __init__(self, ends, required, needs):
        self.ends = ends
        self.required = required
        self.needs = needs

    def start(self):
        return State(self.ends, self.required)


def pick(need, state):
    """How to go on where a need is not met by the least places of the state; None if it is.

    A tuple: in how many ways the need can still be met (0 if in none), a literal
    that begins one of them, and the state with it.
    """
    kind = need[0]
    if kind == "and":
        return _pick_of_all(need[1], state)
    if kind == "or":
        return _pick_of_any(need[1], state)
    if state.is_met(need):
        return None
    if kind == "null" or (kind == "some" and not state.is_open(need[1])):
        return NO_WAY
    other = state.with_literal(need)
    return NO_WAY if other.fault is not None else (1, need, other)


def _pick_of_all(needs, state):
    """As pick, for the need with the fewest ways."""
    best = None
    for need in needs:
        found = pick(need, state)
        if found is not None and (best is None or found[0] < best[0]):
            best = found
        if found is not None and (found[0] == 0 or need[0] == "some"):
            # What stands behind `some` is about unknowns that are not None.
            break
    return best


def _pick_of_any(needs, state):
    count = 0
    first = NO_WAY
    for need in needs:
        found = pick(need, state)
        if found is None:
            return None
        if count == 0:
            first = found
        count = count + found[0]
    return (count,) + first[1:]


def least_places(problem, names):
    """The least tuple of places of these unknowns (None is the least) that meets the needs.

    None if they cannot be met.
    """
    return Search(problem, names, False).best_places()


def greatest_places(problem, names):
    """The greatest tuple of places of these unknowns that meets the needs, or None."""
    ends = {name: (-problem.ends[name][1], -problem.ends[name][0]) for name in problem.ends}
    needs = [mirrored(need) for need in problem.needs]
    places = Search(Problem(ends, problem.required, needs), names, True).best_places()
    if places is None:
        return None
    return tuple([None if place is None else -place for place in places])


class Search:
    """The states that are still to be looked at, the best one first."""

    def __init__(self, problem, names, is_none_last):
        self.wanted = names
        self.is_none_last = is_none_last
        self.needs = _flat(problem.needs)
        self.first = problem.start()
        self.queue = []
        self.count = 0

    def best_places(self):
        self._offer(self.first)
        while self.queue:
            state, choice = heappop(self.queue)[2:]
            if choice is None:
                return tuple([state.place(name) for name in self.wanted])
            self._offer(state.with_literal(opposite(choice[1])))
            self._offer(choice[2])
        return None

    def _offer(self, state):
        """Puts a state into the queue, with what follows from it, unless it has no way on."""
        state, choice = self._settled(state)
        if self.is_none_last and (choice is None or choice[0] > 0):
            choice = self._choice_of_some(state) or choice
        if choice is None or choice[0] > 0:
            # Of equal states the newest one is the nearest to an end.
            self.count = self.count + 1
            heappush(self.queue, (self._rank(state), -self.count, state, choice))

    def _settled(self, state):
        """The state with the literals that are needed in any case, and how to go on."""
        is_changed = True
        while is_changed:
            is_changed = False
            best = None
            for need in self.needs:
                found = pick(need, state)
                while found is not None and found[0] == 1:
                    state = found[2]
                    is_changed = True
                    found = pick(need, state)
                if found is not None and found[0] == 0:
                    return state, found
                if found is not None and (best is None or found[0] < best[0]):
                    best = found
        return state, best

    def _choice_of_some(self, state):
        """The choice whether an open unknown of the names is None; None if none is open.

        The least places take None where it is open, and as the last value it is the worst.
        """
        for name in self.wanted:
            if state.is_open(name):
                return (2, ("some", name), state.with_literal(("some", name)))
        return None

    def _rank(self, state):
        """What no places of the state are better than."""
        ranks = []
        for name in self.wanted:
            place = state.place(name)
            if self.is_none_last and state.is_open(name):
                place = self.first.ends[name][0]
            ranks.append((self.is_none_last, 0) if place is None else (not self.is_none_last, place))
        return tuple(ranks)


def _flat(needs):
    """The same needs, without `and` at the top."""
    flat = []
    for need in needs:
        if need[0] == "and":
            flat.extend(_flat(need[1]))
        else:
            flat.append(need)
    return flat
