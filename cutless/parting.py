"""Parting a derivation in two, with a statement between."""

from cutless.errors import NoProof, NotCleared
from cutless.rows import closes, more, names_in, parts
from cutless.statements import bound_by, names_of
from cutless.trees import CLOSE, cuts, fits, with_kids


def rules_of(I, name, first, second):
    """The statement with its rule on the right below the first trees, on the left below the second ones."""
    return (I, ("rule", "right", I, name, tuple(first)), ("rule", "left", I, name, tuple(second)))


def shared_with(ones, others):
    """The left statements of the one row that are on the right of the other, in their order."""
    return [A for side, A in ones if side == "left" and ("right", A) in others]


def parted_close(ones, others):
    """What is told where the tree is a close."""
    if closes(ones):
        return (("no",), CLOSE, CLOSE)
    if closes(others):
        return (("yes",), CLOSE, CLOSE)
    forward = shared_with(ones, others)
    if forward:
        return (forward[0], CLOSE, CLOSE)
    backward = shared_with(others, ones)
    return rules_of(("not", backward[0]), "", [CLOSE], [CLOSE])


def of_two_kids(rule, is_first, told):
    """What is told of a rule with two branches, by what is told of its kids."""
    between = (told[0][0], told[1][0])
    firsts = [each[1] for each in told]
    seconds = [each[2] for each in told]
    if is_first:
        return rules_of(("or",) + between, "", [with_kids(rule, firsts)], seconds)
    return rules_of(("and",) + between, "", firsts, [with_kids(rule, seconds)])


def of_one_kid(part, rule, is_first, told):
    """What is told of a rule with one branch, by what is told of its kid; the part is the rule's."""
    I, first, second = told
    if is_first:
        first = with_kids(rule, [first])
    else:
        second = with_kids(rule, [second])
    name = rule[3]
    if name in names_of(I) and name not in names_in(part):
        binder = "all" if is_first else "some"
        return rules_of((binder, bound_by(I, name)), name, [first], [second])
    return (I, first, second)


def parted_tree(ones, others, tree):
    """What is told of a derivation without cuts."""
    if tree == CLOSE:
        return parted_close(ones, others)
    side, A, name, kids = tree[1:]
    is_first = (side, A) in ones
    told = []
    for branch, kid in zip(parts(side, A, name), kids):
        if is_first:
            told.append(parted_tree(more(ones, branch), others, kid))
        else:
            told.append(parted_tree(ones, more(others, branch), kid))
    if len(told) == 2:
        return of_two_kids(tree, is_first, told)
    return of_one_kid(ones if is_first else others, tree, is_first, told[0])


def parted(ones, others, tree):
    """The statement between the two parts, and the derivations to it and from it."""
    if not fits(more(ones, others), tree):
        raise NoProof("the tree does not fit the row of both parts")
    if cuts(tree) > 0:
        raise NotCleared("the derivation has a cut")
    return parted_tree(ones, others, tree)
