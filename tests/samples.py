"""Statements and derivations for the tests: short ways to write them, and many of them in a fixed order."""

import itertools
import random

from cutless.rows import closes, is_own, marks, more, names_in, parts, row_of
from cutless.statements import names_of, put_in, words_of
from cutless.trees import cuts, fits

YES = ("yes",)
NO = ("no",)


def word(text, *terms):
    return ("word", text, terms)


def neg(A):
    return ("not", A)


def both(A, B):
    return ("and", A, B)


def either(A, B):
    return ("or", A, B)


def when(A, B):
    return ("if", A, B)


def every(A):
    return ("all", A)


def some(A):
    return ("some", A)


P = word("p")
Q = word("q")
R = word("r")
PLACES = [str(k) for k in range(30)]

# One of each of the nine kinds, with the kind's own name.
KINDS = {
    "yes": YES,
    "no": NO,
    "word": word("p", "a"),
    "not": neg(P),
    "and": both(P, Q),
    "or": either(P, Q),
    "if": when(P, Q),
    "all": every(word("p", "0")),
    "some": some(word("p", "0")),
}


def nested(many, build, leaf):
    """The leaf within many statements, one within another."""
    A = leaf
    for _ in range(many):
        A = build(A)
    return A


def wide(many, build, leaf):
    """A statement of leaves, as even as can be, with many leaves in it."""
    if many == 1:
        return leaf
    return build(wide(many // 2, build, leaf), wide(many - many // 2, build, leaf))


def part_count(A):
    """How many statements A is: itself and those within it."""
    if A[0] in ("yes", "no", "word"):
        return 1
    return 1 + sum(part_count(B) for B in A[1:])


def spelled(A, around=()):
    """A as a text in which each place is told by the name of its all or some.

    `around` are the names for the all and some around A, the nearest one last:
    X0, X1, .. for those that are told, another name for one that isn't.
    """
    kind = A[0]
    if kind == "word":
        terms = [around[-1 - int(t)] if t in PLACES else t for t in A[2]]
        return f"{A[1]}({','.join(terms)})"
    if kind in ("all", "some"):
        own = f"X{len([name for name in around if name[0] == 'X'])}"
        return f"{kind} {own} {spelled(A[1], around + (own,))}"
    return " ".join([kind] + [spelled(B, around) for B in A[1:]])


def leaves(depth):
    """Statements without signs, for the inside of depth all and some."""
    given = [YES, NO, P, word("q", "a"), word("q", "b", "n0")]
    if depth >= 1:
        given.append(word("r", "0", "a"))
    if depth >= 2:
        given.append(word("s", "1", "b", "0"))
    if depth >= 3:
        given.append(word("t", "2", "a", "1"))
    return given


def of_signs(many, depth=0):
    """All statements of just so many signs over the leaves."""
    if many == 0:
        return leaves(depth)
    given = [neg(A) for A in of_signs(many - 1, depth)]
    given += [build(A) for build in (every, some) for A in of_signs(many - 1, depth + 1)]
    for first in range(many):
        for A in of_signs(first, depth):
            for B in of_signs(many - 1 - first, depth):
                given += [both(A, B), either(A, B), when(A, B)]
    return given


def up_to(many, depth=0):
    """All statements of at most so many signs over the leaves."""
    return [A for signs in range(many + 1) for A in of_signs(signs, depth)]


CLOSE = ("close",)
SIDES = ("left", "right")


def left(A, *kids, by=""):
    """The rule of A on the left."""
    return ("rule", "left", A, by, kids)


def right(A, *kids, by=""):
    """The rule of A on the right."""
    return ("rule", "right", A, by, kids)


def cut(A, first, second):
    return ("cut", A, (first, second))


# A row that doesn't close, and derivations of it that tell where they stand
# by how often they begin with the same rule.
BASE = row_of([both(P, Q), either(P, Q)], [either(P, R)])


def based(many=0):
    """A derivation of BASE, and of each row that has more, with many rules too much in it."""
    return nested(many, lambda tree: left(both(P, Q), tree), left(both(P, Q), right(either(P, R), CLOSE)))


def bush(many):
    """A derivation of BASE, and of each row that has more, of so many nodes (three at least), as low as can be."""
    if many < 7:
        return based(many - 3)
    return left(either(P, Q), bush((many - 1) // 2), bush(many - 1 - (many - 1) // 2))


def grown(second, extra=0):
    """A derivation of BASE whose step has the second kid's tree twice; so many rules stand beneath."""
    A = neg(R)
    kid = right(A, based())
    tree = cut(A, left(either(P, Q), kid, kid), left(A, second))
    return nested(extra, lambda tree: left(both(P, Q), tree), tree)


def raised(second, extra=0):
    """A derivation of BASE whose step is one higher than it."""
    A = neg(R)
    tree = cut(A, left(both(P, Q), right(A, based())), left(A, second))
    return nested(extra, lambda tree: left(both(P, Q), tree), tree)


def many_cuts(many):
    """A derivation of p => p with so many cuts, each of which takes one step."""
    if many == 0:
        return CLOSE
    return cut(Q, many_cuts((many - 1) // 2), many_cuts(many - 1 - (many - 1) // 2))


VERSIONS = (
    lambda A: A,
    lambda A: both(A, YES),
    lambda A: either(A, NO),
    lambda A: neg(neg(A)),
    lambda A: either(A, A),
)


def version(A, k):
    """A with a statement of the same meaning in the place of each word."""
    if A[0] in ("yes", "no"):
        return A
    if A[0] == "word":
        return VERSIONS[k](A)
    return (A[0],) + tuple(version(B, k) for B in A[1:])


def by_rules(row):
    """A derivation of a row that needs no all and some, by whatever rules come first."""
    if closes(row):
        return CLOSE
    for side, A in row:
        branches = [] if A[0] in ("all", "some") else parts(side, A, "")
        if branches and all(any(each not in row for each in branch) for branch in branches):
            return ("rule", side, A, "", tuple(by_rules(more(row, branch)) for branch in branches))
    raise ValueError(row)


def carried(row, A, k, m, pick):
    """A derivation of a row that has version k of A on the left and version m of it on the right.

    It takes A apart on both sides sign by sign; `pick` gives an own name that is none of the names it is handed.
    """
    X, Y = version(A, k), version(A, m)
    if A[0] in ("yes", "no", "word"):
        return by_rules(row)
    if A[0] in ("all", "some"):
        name = pick(names_in(row))
        signed = [("right", Y), ("left", X)] if A[0] == "all" else [("left", X), ("right", Y)]
        row = more(row, [(side, put_in(B[1], name)) for side, B in signed])
        kid = carried(row, put_in(A[1], name), k, m, pick)
        (side, B), (other, C) = signed
        return ("rule", side, B, name, (("rule", other, C, name, (kid,)),))
    if A[0] == "not":
        row = more(row, [("right", X[1]), ("left", Y[1])])
        return left(X, right(Y, carried(row, A[1], m, k, pick)))
    if A[0] == "and":
        row = more(row, [("left", X[1]), ("left", X[2])])
        return left(X, right(Y, *[carried(more(row, [("right", Y[n])]), A[n], k, m, pick) for n in (1, 2)]))
    if A[0] == "or":
        row = more(row, [("right", Y[1]), ("right", Y[2])])
        return right(Y, left(X, *[carried(more(row, [("left", X[n])]), A[n], k, m, pick) for n in (1, 2)]))
    row = more(row, [("left", Y[1]), ("right", Y[2])])
    first = carried(more(row, [("right", X[1])]), A[1], m, k, pick)
    return right(Y, left(X, first, carried(more(row, [("left", X[2])]), A[2], k, m, pick)))


def picker(chance):
    """Gives own names, near to one another so that they clash as often as can be."""

    def pick(names):
        return chance.choice([name for name in ["a", "b"] + [f"n{k}" for k in range(12)] if name not in names][:3])

    return pick


CARRIED = (
    P,
    neg(word("p", "a")),
    both(P, word("q", "a")),
    either(word("p", "a"), Q),
    when(P, Q),
    when(neg(P), Q),
    every(word("p", "0")),
    some(word("p", "0", "a")),
    every(some(word("p", "0", "1"))),
    some(every(word("p", "0", "1"))),
    every(when(word("p", "0"), word("q", "0", "n0"))),
    some(both(word("p", "0"), every(word("q", "0", "1")))),
    every(every(either(word("p", "0", "1"), Q))),
    some(some(neg(word("p", "0", "1", "b")))),
    neg(every(neg(word("p", "0")))),
    either(every(word("p", "0")), some(word("q", "0"))),
    both(some(word("p", "0")), every(P)),
    when(some(word("p", "0")), every(word("p", "0"))),
)


def carried_cuts():
    """Rows with derivations, each a cut of a version of a statement between two others of it."""
    given = []
    for at, A in enumerate(CARRIED):
        for k, m, n in itertools.permutations(range(len(VERSIONS)), 3):
            if (k + 2 * m + 3 * n + at) % 5:
                continue
            pick = picker(random.Random(f"{at} {k} {m} {n}"))
            row = row_of([version(A, k)], [version(A, n)])
            first = carried(more(row, [("right", version(A, m))]), A, k, m, pick)
            second = carried(more(row, [("left", version(A, m))]), A, m, n, pick)
            given.append((row, cut(version(A, m), first, second)))
    return given


def chosen(chance, signs, depth=0):
    """Some statement of so many signs."""
    if signs == 0:
        return chance.choice(leaves(min(depth, 2)))
    kind = chance.choice(("not", "and", "or", "if", "all", "some"))
    if kind == "not":
        return neg(chosen(chance, signs - 1, depth))
    if kind in ("all", "some"):
        return (kind, chosen(chance, signs - 1, depth + 1))
    first = chance.randrange(signs)
    return (kind, chosen(chance, first, depth), chosen(chance, signs - 1 - first, depth))


def steps_at(chance, row):
    """The rules that may stand at the row and add something to it in each branch, as (side, A, name)."""
    names = names_in(row)
    given = []
    for side, A in row:
        if A[0] not in ("all", "some"):
            given.append((side, A, ""))
        elif is_own(side, A):
            given.append((side, A, picker(chance)(names)))
        else:
            given += [(side, A, name) for name in names + [chance.choice(("a", "b", "n0", "n1"))]]
    return [each for each in given if parts(*each) and all(set(b) - set(row) for b in parts(*each))]


def sought(chance, row, most, often):
    """Some derivation of the row at most so high, with cuts every so often; None where none is found."""
    if closes(row) and (most <= 1 or chance.randrange(8)):
        return CLOSE
    given = steps_at(chance, row) if most > 1 else []
    if most > 1 and chance.randrange(often) == 0:
        A = chosen(chance, chance.randrange(3))
        rows = [more(row, [("right", A)]), more(row, [("left", A)])]
        node = ("cut", A)
    elif given:
        node = ("rule",) + chance.choice(given)
        rows = [more(row, branch) for branch in parts(*node[1:])]
    else:
        return CLOSE if closes(row) else None
    kids = []
    for above in rows:
        kids.append(sought(chance, above, most - 1, often))
        if kids[-1] is None:
            return None
    return node + (tuple(kids),)


def sought_derivations(many):
    """So many rows with derivations of them of all sorts, some with cuts."""
    chance = random.Random("derivations")
    given = []
    while len(given) < many:
        lefts = [chosen(chance, chance.randrange(4)) for _ in range(chance.randrange(3))]
        rights = [chosen(chance, chance.randrange(4)) for _ in range(chance.randrange(3))]
        row = row_of(lefts, rights)
        tree = sought(chance, row, 8, chance.choice((4, 8, 20)))
        if tree is not None and tree != CLOSE:
            given.append((row, tree))
    return given


def is_part(one, other):
    """Whether the one signed statement is a part of the other, by any name."""
    if one == other:
        return True
    side, A = other
    # A name that stands nowhere is as good as any other one for a place that
    # the one statement doesn't tell.
    names = names_of(one[1]) + ["zz"] if A[0] in ("all", "some") else [""]
    return any(is_part(one, each) for name in names for branch in parts(side, A, name) for each in branch)


def dealings(row):
    """All ways to deal the row to two parts, a statement in either or in both."""
    for hands in itertools.product((1, 2, 3), repeat=len(row)):
        ones = tuple(each for each, hand in zip(row, hands) if hand & 1)
        others = tuple(each for each, hand in zip(row, hands) if hand & 2)
        yield ones, others


def assert_between(case, ones, others, told):
    """What is told is derived from the first part, leads to the second, and speaks of what both know."""
    I, first, second = told
    case.assertIs(fits(more(ones, [("right", I)]), first), True, (ones, others, told))
    case.assertIs(fits(more(others, [("left", I)]), second), True, (ones, others, told))
    case.assertEqual((cuts(first), cuts(second)), (0, 0))
    case.assertLessEqual(set(names_of(I)), set(names_in(ones)) & set(names_in(others)))
    first_marks = {mark for side, A in ones for mark in marks(side, A)}
    second_marks = {mark for side, A in others for mark in marks(side, A)}
    case.assertLessEqual(set(marks("left", I)), first_marks)
    case.assertLessEqual(set(marks("right", I)), second_marks)
    for row in (ones, others):
        case.assertLessEqual(set(words_of(I)), {word for side, A in row for word in words_of(A)})


def some_world(chance, many, statements):
    """A world of so many things, for the names and words of these statements."""
    names = sorted({name for A in statements for name in names_of(A)})
    words = sorted({each for A in statements for each in words_of(A)})
    facts = {}
    for text, terms in words:
        often = chance.choice((1, 2, 3))
        told = [each for each in itertools.product(range(many), repeat=terms) if chance.randrange(4) < often]
        facts.setdefault(text, []).extend(told)
    return (many, {name: chance.randrange(many) for name in names}, facts)


def worlds_for(statements, often):
    """Worlds of one to three things, so many of each number, for the names and words of these statements."""
    chance = random.Random(repr(statements))
    return [some_world(chance, many, statements) for many in (1, 2, 3) for _ in range(often)]
