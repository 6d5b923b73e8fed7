"""Statements: their signs, names and words, and the terms within them changed."""

LEAVES = ("yes", "no", "word")
BINDERS = ("all", "some")


def inside(A):
    """The statements (or the body) straight within A, as a tuple."""
    return () if A[0] in LEAVES else A[1:]


def is_place(term):
    """Whether the term is a place, not a name."""
    return term.isdigit()


def signs(A):
    """How many not, and, or, if, all, some are in A."""
    if A[0] in LEAVES:
        return 0
    return 1 + sum([signs(B) for B in inside(A)])


def words_within(A):
    """The word statements in A from left to right, as often as they stand there."""
    if A[0] == "word":
        return [A]
    found = []
    for B in inside(A):
        found.extend(words_within(B))
    return found


def names_of(A):
    """The names in A, sorted, each once."""
    return sorted({term for word in words_within(A) for term in word[2] if not is_place(term)})


def words_of(A):
    """The words in A as tuples (text, how many terms), sorted, each once."""
    return sorted({(word[1], len(word[2])) for word in words_within(A)})


def with_terms(A, depth, change):
    """A with change(term, depth) in the place of each term.

    The depth is counted up within an all or some, since the place of the
    same thing is one greater there.
    """
    kind = A[0]
    if kind == "word":
        return (kind, A[1], tuple([change(term, depth) for term in A[2]]))
    inner = depth + 1 if kind in BINDERS else depth
    return (kind,) + tuple([with_terms(B, inner, change) for B in inside(A)])


def put_in(body, name):
    """The statement that the body of an all or some becomes by the name."""
    return with_terms(body, 0, lambda term, depth: name if is_place(term) and int(term) == depth else term)


def bound_by(A, name):
    """The body that gives A again when the name is put in, the name being nowhere in it."""
    return with_terms(A, 0, lambda term, depth: str(depth) if term == name else term)


def renamed(A, old, new):
    """A with the new name wherever it had the old one."""
    return with_terms(A, 0, lambda term, depth: new if term == old else term)
