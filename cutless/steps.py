"""Clearing a derivation of its cuts, step by step."""

from cutless.errors import NoCut, NoProof, TooGreat
from cutless.fitting import changed, fitted
from cutless.rows import closes, more, parts
from cutless.statements import put_in
from cutless.trees import CLOSE, cut_of, cuts, fits, height, kids_of, nodes, rows_above, with_kids

MOST_NODES = 600
MOST_HEIGHT = 40
MOST_STEPS = 100


def with_first(G, A, kid, K):
    """At G, the cut of A of the kid and of K fitted to it."""
    return cut_of(A, kid, fitted(more(G, [("left", A)]), K))


def with_second(G, A, L, kid):
    """At G, the cut of A of L fitted to it and of the kid."""
    return cut_of(A, fitted(more(G, [("right", A)]), L), kid)


def above_first(G, A, L, K):
    """The rule of L with the cut moved above it."""
    kids = [with_first(row, A, kid, K) for row, kid in zip(rows_above(G, L), kids_of(L))]
    return with_kids(L, kids)


def above_second(G, A, L, K):
    """The rule of K with the cut moved above it."""
    kids = [with_second(row, A, L, kid) for row, kid in zip(rows_above(G, K), kids_of(K))]
    return with_kids(K, kids)


def kid_by(G, rule, name):
    """The kid of a rule with an own name, standing for another name instead."""
    own = rule[3]
    row = rows_above(more(G, [rule[1:3]]), rule)[0]
    # A rule above that has one of the two names as its own would no longer
    # have it as its own once both are one.
    kid = fitted(row, kids_of(rule)[0], [own, name])
    return changed(kid, own, name)


def of_one_name(G, A, L, K):
    """The name that stands for both rules of A, and the kids of both by it."""
    if A[0] == "all":
        return K[3], (kid_by(G, L, K[3]),), kids_of(K)
    if A[0] == "some":
        return L[3], kids_of(L), (kid_by(G, K, L[3]),)
    return "", kids_of(L), kids_of(K)


def lesser_cuts(G, A, name, E, F):
    """The cuts of the statements in A, above them those of A in E and F."""
    kind = A[0]
    if kind == "not":
        return cut_of(A[1], F[0], E[0])
    if kind in ("all", "some"):
        return cut_of(put_in(A[1], name), E[0], F[0])
    B, C = A[1:]
    if kind == "and":
        there = more(G, [("left", B), ("right", C)])
        return cut_of(B, E[0], cut_of(C, fitted(there, E[1]), F[0]))
    if kind == "or":
        there = more(G, [("right", C), ("left", B)])
        return cut_of(C, cut_of(B, E[0], fitted(there, F[0])), F[1])
    there = more(G, [("left", B), ("left", C)])
    return cut_of(B, F[0], cut_of(C, E[0], fitted(there, F[1])))


def taken_apart(G, A, L, K):
    """What a cut of A gives way to where both kids are rules of A."""
    name, firsts, seconds = of_one_name(G, A, L, K)
    right_rows = [more(G, branch) for branch in parts("right", A, name)]
    left_rows = [more(G, branch) for branch in parts("left", A, name)]
    E = [with_first(row, A, kid, K) for row, kid in zip(right_rows, firsts)]
    F = [with_second(row, A, L, kid) for row, kid in zip(left_rows, seconds)]
    return lesser_cuts(G, A, name, E, F)


def given_way(G, cut):
    """What a cut gives way to at the row G, neither of its kids having a cut."""
    A, (L, K) = cut[1:]
    if closes(G):
        return CLOSE
    if fits(G, L):
        return L
    if fits(G, K):
        return K
    if L[1:3] != ("right", A):
        return above_first(G, A, L, K)
    if K[1:3] != ("left", A):
        return above_second(G, A, L, K)
    return taken_apart(G, A, L, K)


def stepped(row, tree):
    """The tree with a step taken at the first of its cuts that has no cut above it."""
    if tree[0] == "cut" and cuts(tree) == 1:
        return given_way(row, tree)
    kids = list(kids_of(tree))
    at = 0
    while cuts(kids[at]) == 0:
        at += 1
    kids[at] = stepped(rows_above(row, tree)[at], kids[at])
    return with_kids(tree, kids)


def is_too_great(tree):
    """Whether the tree has more nodes, or is higher, than a step may leave it."""
    return nodes(tree) > MOST_NODES or height(tree) > MOST_HEIGHT


def bounded_step(row, tree):
    """A step of a derivation that has a cut; refused where it is too great."""
    told = stepped(row, tree)
    if is_too_great(told):
        raise TooGreat("the step gives too great a tree")
    return told


def step(row, tree):
    """The derivation behind one step of clearing."""
    if not fits(row, tree):
        raise NoProof("the tree does not fit the row")
    if cuts(tree) == 0:
        raise NoCut("the derivation has no cut")
    return bounded_step(row, tree)


def clearing(row, tree):
    """The derivations behind each step, until there is no cut."""
    if not fits(row, tree):
        raise NoProof("the tree does not fit the row")
    told = []
    last = tree
    while cuts(last) > 0:
        if len(told) == MOST_STEPS:
            raise TooGreat("the derivation still has a cut behind the last step")
        last = bounded_step(row, last)
        told.append(last)
    return told


def cleared(row, tree):
    """The derivation without cuts at the end of clearing."""
    told = clearing(row, tree)
    return told[-1] if told else tree
