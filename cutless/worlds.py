"""Worlds: what is so in them, and which rows hold."""

from cutless.statements import BINDERS, inside, is_place


def thing_of(world, term, around):
    """The number of the thing that the term stands for."""
    return around[int(term)] if is_place(term) else world[1][term]


def word_so(world, A, around):
    """Whether the word statement A is so."""
    told = tuple([thing_of(world, term, around) for term in A[2]])
    return told in world[2].get(A[1], [])


def has_place(A, place):
    """Whether this place, as it is counted at A, stands in A."""
    if A[0] == "word":
        return any([is_place(term) and int(term) == place for term in A[2]])
    inner = place + 1 if A[0] in BINDERS else place
    return any([has_place(B, inner) for B in inside(A)])


def over_things(world, A, around):
    """Whether A, an all or some, is so."""
    sought = A[0] == "some"
    # Without its place the body is the same for all things, and asking it once
    # keeps many all and some one within another from taking too long.
    many = world[0] if has_place(A[1], 0) else 1
    for thing in range(many):
        if so_within(world, A[1], [thing] + around) == sought:
            return sought
    return not sought


def so_within(world, A, around):
    """Whether A is so; around are the things of the all and some around it, the nearest one first."""
    kind = A[0]
    if kind == "word":
        return word_so(world, A, around)
    if kind in BINDERS:
        return over_things(world, A, around)
    if kind == "not":
        return not so_within(world, A[1], around)
    if kind == "and":
        return so_within(world, A[1], around) and so_within(world, A[2], around)
    if kind == "or":
        return so_within(world, A[1], around) or so_within(world, A[2], around)
    if kind == "if":
        return not so_within(world, A[1], around) or so_within(world, A[2], around)
    return kind == "yes"


def so(world, A):
    """Whether the statement A is so in the world."""
    return so_within(world, A, [])


def holds(world, row):
    """Whether some left statement of the row is not so in the world, or some right one is."""
    return any([so(world, A) == (side == "right") for side, A in row])
