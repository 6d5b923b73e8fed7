"""Finding out a row without all and some: a derivation of it, or words by which it does not hold."""

from cutless.errors import NotPlain, TooGreat
from cutless.rows import closes, more, parts
from cutless.statements import BINDERS, inside, signs
from cutless.trees import CLOSE, fits

MOST_SIGNS = 8


def is_plain(A):
    """Whether A is without all and some."""
    return A[0] not in BINDERS and all([is_plain(B) for B in inside(A)])


def adds_to(row, branch):
    """Whether the branch has something that the row has not."""
    return any([each not in row for each in branch])


def rules_left(row):
    """Of the signed statements each branch of which adds to the row: (how many branches, side, A)."""
    given = []
    for side, A in row:
        branches = parts(side, A, "")
        if branches and all([adds_to(row, branch) for branch in branches]):
            given.append((len(branches), side, A))
    return given


def found_by(row, side, A):
    """What is told of the row by the rule of a signed statement in it."""
    kids = []
    for branch in parts(side, A, ""):
        has_tree, told = found_at(more(row, branch))
        if not has_tree:
            return (False, told)
        # A kid that does without its branch is the shorter derivation, and
        # the other branch needn't be looked at.
        if fits(row, told):
            return (True, told)
        kids.append(told)
    return (True, ("rule", side, A, "", tuple(kids)))


def found_at(row):
    """What is told of a row without all and some."""
    if closes(row):
        return (True, CLOSE)
    given = rules_left(row)
    if given:
        # The fewest branches first keep the derivation small.
        side, A = min(given)[1:]
        return found_by(row, side, A)
    # Each left statement has a branch that the row has, and so has each right
    # one: by the words on the left alone all of them are as they ought to be.
    return (False, [A for side, A in row if side == "left" and A[0] == "word"])


def find_out(row):
    """(True, a derivation without cuts), or (False, the words by which the row does not hold)."""
    if not all([is_plain(A) for side, A in row]):
        raise NotPlain("the row has an all or some")
    if sum([signs(A) for side, A in row]) > MOST_SIGNS:
        raise TooGreat("the row has too many signs")
    return found_at(row)
