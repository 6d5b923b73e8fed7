"""Rows of signed statements, and the branches and marks of a signed statement."""

from cutless.statements import BINDERS, LEAVES, inside, names_of, put_in

FORKS = (("right", "and"), ("left", "or"), ("left", "if"))
OWN = (("right", "all"), ("left", "some"))


def sorted_row(signed):
    """The row of a list of signed statements."""
    # Statements may lie deeper in one another than a set's members may, so
    # doubles are found as neighbours behind sorting.
    kept = []
    for each in sorted(signed):
        if not kept or kept[-1] != each:
            kept.append(each)
    return tuple(kept)


def row_of(lefts, rights):
    """The row with these statements on the left and on the right."""
    return sorted_row([("left", A) for A in lefts] + [("right", A) for A in rights])


def more(row, added):
    """The row with the signed statements of a list or row added."""
    return sorted_row(list(row) + list(added))


def closes(row):
    """Whether the row has yes on the right, no on the left, or one statement on both sides."""
    if ("right", ("yes",)) in row or ("left", ("no",)) in row:
        return True
    return any([side == "left" and ("right", A) in row for side, A in row])


def names_in(row):
    """The names in the statements of the row, sorted, each once."""
    return sorted({name for side, A in row for name in names_of(A)})


def other_side(side):
    """The side over against this one."""
    return "right" if side == "left" else "left"


def signed_within(side, A):
    """The statements straight within A, each with the side on which it stands there."""
    signed = [(side, B) for B in inside(A)]
    if A[0] in ("not", "if"):
        signed[0] = (other_side(side), A[1])
    return signed


def parts(side, A, name):
    """The branches of the signed statement; the name is looked at for all and some alone."""
    kind = A[0]
    if kind in LEAVES:
        return []
    if kind in BINDERS:
        return [[(side, put_in(A[1], name))]]
    signed = signed_within(side, A)
    if (side, kind) in FORKS:
        return [[each] for each in signed]
    return [signed]


def is_own(side, A):
    """Whether the rule of the signed statement needs an own name."""
    return (side, A[0]) in OWN


def marks_within(side, A):
    """The marks of the signed statement from left to right, as often as they stand there."""
    if A[0] == "word":
        return [(A[1], len(A[2]), side)]
    found = []
    for inner, B in signed_within(side, A):
        found.extend(marks_within(inner, B))
    return found


def marks(side, A):
    """The tuples (text, how many terms, side) of the words in A, sorted, each once."""
    return sorted(set(marks_within(side, A)))
