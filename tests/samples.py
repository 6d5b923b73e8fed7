"""Statements for the tests: short ways to write them, and many of them in a fixed order."""

YES = ("yes",)
NO = ("no",)


def word(text, *terms):
    return ("word", text, terms)


def neg(A):
    return ("not", A)


def both(A, B):
    return ("and", A, B)


def either(A, B):
    return ("or", A, B)


def when(A, B):
    return ("if", A, B)


def every(A):
    return ("all", A)


def some(A):
    return ("some", A)


P = word("p")
Q = word("q")
R = word("r")
PLACES = [str(k) for k in range(30)]

# One of each of the nine kinds, with the kind's own name.
KINDS = {
    "yes": YES,
    "no": NO,
    "word": word("p", "a"),
    "not": neg(P),
    "and": both(P, Q),
    "or": either(P, Q),
    "if": when(P, Q),
    "all": every(word("p", "0")),
    "some": some(word("p", "0")),
}


def nested(many, build, leaf):
    """The leaf within many statements, one within another."""
    A = leaf
    for _ in range(many):
        A = build(A)
    return A


def wide(many, build, leaf):
    """A statement of leaves, as even as can be, with many leaves in it."""
    if many == 1:
        return leaf
    return build(wide(many // 2, build, leaf), wide(many - many // 2, build, leaf))


def part_count(A):
    """How many statements A is: itself and those within it."""
    if A[0] in ("yes", "no", "word"):
        return 1
    return 1 + sum(part_count(B) for B in A[1:])


def spelled(A, around=()):
    """A as a text in which each place is told by the name of its all or some.

    `around` are the names for the all and some around A, the nearest one last:
    X0, X1, .. for those that are told, another name for one that isn't.
    """
    kind = A[0]
    if kind == "word":
        terms = [around[-1 - int(t)] if t in PLACES else t for t in A[2]]
        return f"{A[1]}({','.join(terms)})"
    if kind in ("all", "some"):
        own = f"X{len([name for name in around if name[0] == 'X'])}"
        return f"{kind} {own} {spelled(A[1], around + (own,))}"
    return " ".join([kind] + [spelled(B, around) for B in A[1:]])


def leaves(depth):
    """Statements without signs, for the inside of depth all and some."""
    given = [YES, NO, P, word("q", "a"), word("q", "b", "n0")]
    if depth >= 1:
        given.append(word("r", "0", "a"))
    if depth >= 2:
        given.append(word("s", "1", "b", "0"))
    if depth >= 3:
        given.append(word("t", "2", "a", "1"))
    return given


def of_signs(many, depth=0):
    """All statements of just so many signs over the leaves."""
    if many == 0:
        return leaves(depth)
    given = [neg(A) for A in of_signs(many - 1, depth)]
    given += [build(A) for build in (every, some) for A in of_signs(many - 1, depth + 1)]
    for first in range(many):
        for A in of_signs(first, depth):
            for B in of_signs(many - 1 - first, depth):
                given += [both(A, B), either(A, B), when(A, B)]
    return given


def up_to(many, depth=0):
    """All statements of at most so many signs over the leaves."""
    return [A for signs in range(many + 1) for A in of_signs(signs, depth)]
