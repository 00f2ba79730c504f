"""Reasons that no row is possible, and whether any value is one."""

from partwise.assumptions import assumption_of, literal_of, opposite_of
from partwise.facts import Facts
from partwise.literals import literals_of, opposite
from partwise.places import ends_of
from partwise.search import pick
from partwise.unknowns import kinds_of, problem_of, required_of, wishes_of
from partwise.walks import is_walk, walk_of


def reason(schema, true=(), kept=()):
    """A reason that no row is possible, None if one is."""
    problem = problem_of(schema, wishes_of(true, kept))
    return Refutation(problem, Subject(schema, true, kept)).tree()


def is_reason(schema, true, kept, value):
    """Whether any value is a reason that no row is possible."""
    return Examination(Subject(schema, true, kept)).accepts(value)


class Subject:
    """The conditions and the unknowns that a reason is about."""

    def __init__(self, schema, true, kept):
        self.conditions = [*true, *kept]
        self.first_kept = len(true)
        self.kinds = kinds_of(schema, self.conditions)
        self.required = required_of(schema)

    def facts(self):
        """What holds without assumptions."""
        ends = {name: ends_of(self.kinds[name]) for name in self.kinds}
        return Facts(ends, self.required)

    def fails(self, at, facts):
        """Whether the condition with this index fails."""
        return facts.fails(self.conditions[at], at >= self.first_kept)


class Refutation:
    """The search for a reason: states are cut in two until none of them has a way on."""

    def __init__(self, problem, subject):
        self.problem = problem
        self.subject = subject

    def tree(self):
        # The literals by which states were cut, the states on the other sides, and
        # the trees of the first sides, as far as they are known.
        cuts = []
        state = self.problem.start()
        while True:
            at, choice = self._choice(state)
            if choice is None:
                return None
            if choice[0] > 0:
                cuts.append((choice[1], state.with_literal(opposite(choice[1])), None))
                state = choice[2]
                continue
            tree = self._closed(state, at)
            while cuts and cuts[-1][2] is not None:
                literal, _, first = cuts.pop()
                tree = ("split", self._assumption(literal), first, tree)
            if not cuts:
                return tree
            literal, state, _ = cuts.pop()
            cuts.append((literal, state, tree))

    def _choice(self, state):
        """The index of the condition with the fewest ways to be met, and how to go on."""
        best = (None, None)
        for at, need in enumerate(self.problem.needs):
            found = pick(need, state)
            if found is not None and (best[1] is None or found[0] < best[1][0]):
                best = (at, found)
                if found[0] == 0:
                    break
        return best

    def _closed(self, state, at):
        """The reason for a state in which a condition has no way to be met.

        The state knows of all its literals together what a reason may only say of
        each unknown, or pair of them, by itself. Walks make up the difference.
        """
        facts = self.subject.facts()
        for literal in state.made:
            facts = facts.with_literal(literal)
        walks = []
        for literal in literals_of(self.problem.needs[at]):
            if self.subject.fails(at, facts):
                break
            walk = self._walk(state, literal)
            if walk is not None:
                walks.append((literal, walk))
                state = state.with_literal(opposite(literal))
                facts = facts.with_literal(opposite(literal))
        tree = ("fails", at)
        for literal, walk in walks[::-1]:
            tree = ("split", self._assumption(literal), walk, tree)
        return tree

    def _walk(self, state, literal):
        """The reason that the literal does not hold in the state, None if there is no walk."""
        names = literal[1:3] if literal[0] == "edge" else literal[1:2]
        if literal[0] in ("null", "some") or any([state.place(name) is None for name in names]):
            # What has been assumed of its unknowns decides it without a walk.
            return None
        fault = state.with_literal(literal).fault
        if fault is None or fault[0] == "rests":
            return None
        return ("walk", tuple([self._assumption(step) for step in walk_of(fault, self.subject.kinds)]))

    def _assumption(self, literal):
        return assumption_of(literal, self.subject.kinds)


class Examination:
    """The walk through the tree of a value, which may be nested as deeply as it likes."""

    def __init__(self, subject):
        self.subject = subject
        # The assumptions above the tree that is looked at, and how often each one is made.
        self.made = []
        self.tallies = {}

    def accepts(self, value):
        """Whether the value is a reason."""
        waiting = [(value, 0, None, self.subject.facts())]
        while waiting:
            tree, depth, assumption, facts = waiting.pop()
            self._return_to(depth)
            if assumption is not None:
                self.made.append(assumption)
                self.tallies[assumption] = self.tallies.get(assumption, 0) + 1
            if not isinstance(tree, tuple):
                return False
            if len(tree) == 4 and tree[0] == "split":
                branches = self._branches(tree, facts)
                waiting.extend(branches)
                if not branches:
                    return False
            elif len(tree) != 2 or not self._closes(tree, facts):
                return False
        return True

    def _return_to(self, depth):
        while len(self.made) > depth:
            assumption = self.made.pop()
            self.tallies[assumption] = self.tallies[assumption] - 1

    def _branches(self, tree, facts):
        """The two trees of a split, with what stands above them; empty if it is wrong."""
        assumption = tree[1]
        literal = literal_of(assumption, self.subject.kinds)
        if literal is None or not _are_ready(literal, facts):
            return []
        depth = len(self.made)
        return [
            (tree[3], depth, opposite_of(assumption), facts.with_literal(opposite(literal))),
            (tree[2], depth, assumption, facts.with_literal(literal)),
        ]

    def _closes(self, tree, facts):
        """Whether the tree has no trees below it, and is right."""
        if tree[0] == "fails":
            return self._is_index(tree[1]) and self.subject.fails(tree[1], facts)
        return tree[0] == "walk" and self._leads_out(tree[1], facts)

    def _is_index(self, value):
        if isinstance(value, bool) or not isinstance(value, int):
            return False
        return 0 <= value < len(self.subject.conditions)

    def _leads_out(self, steps, facts):
        """Whether any value is the steps of a walk."""
        if not isinstance(steps, tuple) or len(steps) < 2:
            return False
        literals = [literal_of(step, self.subject.kinds) for step in steps]
        if None in literals:
            return False
        last = len(steps) - 1
        for at, step in enumerate(steps):
            is_free = at in (0, last) and step[0] == "some" and step[1] in self.subject.required
            if not is_free and self.tallies.get(step, 0) == 0:
                return False
        return is_walk(literals, facts, self.subject.kinds)


def _are_ready(literal, facts):
    """Whether all unknowns are some, for an assumption that needs this."""
    if literal[0] in ("null", "some"):
        return True
    return facts.are_some(literal[1:3] if literal[0] == "edge" else literal[1:2])
