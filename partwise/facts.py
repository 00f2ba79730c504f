"""What the assumptions of a reason say of atoms, each for itself."""

from partwise.formulas import TRUTHS, truths_of, unknowns_of
from partwise.limits import MAX_MODULUS
from partwise.literals import ALL_RESTS, rest_mask
from partwise.spans import complement, truth_within
from partwise.states import next_place


class Facts:
    """The literals that are assumed, gathered by their unknowns. They are never changed."""

    def __init__(self, ends, required):
        self.ends = ends
        self.nulls = {}
        self.somes = {name: True for name in required}
        self.lows = {name: ends[name][0] for name in ends}
        self.highs = {name: ends[name][1] for name in ends}
        self.masks = {name: ALL_RESTS for name in ends}
        # By pairs of unknowns: what the second one is at least, less the first one.
        self.edges = {}

    def with_literal(self, literal):
        """New facts, with one more literal."""
        other = Facts(self.ends, ())
        other.nulls = dict(self.nulls)
        other.somes = dict(self.somes)
        other.lows = dict(self.lows)
        other.highs = dict(self.highs)
        other.masks = dict(self.masks)
        other.edges = {pair: self.edges[pair] for pair in self.edges}
        other._add(literal)
        return other

    def _add(self, literal):
        kind = literal[0]
        name = literal[1]
        if kind == "null":
            self.nulls[name] = True
        elif kind == "some":
            self.somes[name] = True
        elif kind == "least":
            self.lows[name] = max(self.lows[name], literal[2])
        elif kind == "less":
            self.highs[name] = min(self.highs[name], literal[2] - 1)
        elif kind == "rests":
            self.masks[name] = self.masks[name] & literal[2]
        else:
            pair = literal[1:3]
            self.edges[pair] = max(self.edges.get(pair, literal[3]), literal[3])

    def are_some(self, names):
        """Whether the unknowns are required or assumed to be some."""
        return all([name in self.somes for name in names])

    def truths(self, atom):
        """What the atom may be: one truth, or all three if it is open."""
        names = unknowns_of(atom)
        if any([name in self.nulls for name in names]):
            return (True,) if atom[0] == "null" else (None,)
        if not self.are_some(names):
            return TRUTHS
        if atom[0] == "null":
            return (False,)
        truth = self._truth(atom)
        return TRUTHS if truth is None else (truth,)

    def _truth(self, atom):
        """True, False, or None for an open one, of unknowns that are some."""
        name = atom[1]
        if atom[0] == "apart":
            return self._truth_apart(name, atom[2], atom[3])
        low, high = self.lows[name], self.highs[name]
        if atom[0] == "within":
            truth = truth_within(atom[2], low, high) if low <= high else None
            return truth if truth is not None else _truth_by_rests(atom[2], self.masks[name])
        mask = rest_mask(atom[2], atom[3])
        if low == high:
            return mask >> low % MAX_MODULUS & 1 == 1
        if low < high < next_place(low, mask):
            return False
        return _truth_of_rest(mask, self.masks[name])

    def _truth_apart(self, one, other, spans):
        if one == other:
            return truth_within(spans, 0, 0)
        low = self.edges.get((other, one))
        high = self.edges.get((one, other))
        if high is not None:
            high = -high
        if low is not None and high is not None and low > high:
            return None
        return truth_within(spans, low, high)

    def fails(self, condition, is_kept):
        """Whether the condition is not True, or is False if it is kept, whatever is open."""
        truths = truths_of(condition.formula, lambda atom: self.truths(atom))
        return truths == (False,) if is_kept else True not in truths


def _truth_of_rest(mask, allowed):
    if allowed == 0:
        return None
    if allowed & mask == allowed:
        return True
    return False if allowed & mask == 0 else None


def _truth_by_rests(spans, allowed):
    """As truth_within, for all integers whose rests are allowed, however great."""
    if allowed == 0:
        return None
    if _meet_none(spans, allowed):
        return False
    return True if _meet_none(complement(spans), allowed) else None


def _meet_none(spans, allowed):
    """Whether the spans hold no integer with an allowed rest."""
    for start, end in spans:
        if start is None or end is None or next_place(start, allowed) <= end:
            return False
    return True
