"""Trees with other names: changed, and fitted to rows that have more statements."""

from cutless.rows import is_own, names_in
from cutless.statements import renamed
from cutless.trees import kids_of, names_within, rows_above, with_kids


def changed(tree, old, new):
    """The tree with the new name wherever it had the old one."""
    kids = [changed(kid, old, new) for kid in kids_of(tree)]
    if tree[0] == "rule":
        side, A, name = tree[1:4]
        return ("rule", side, renamed(A, old, new), new if name == old else name, tuple(kids))
    if tree[0] == "cut":
        return ("cut", renamed(tree[1], old, new), tuple(kids))
    return tree


def fresh(names):
    """The first of n0, n1, n2, .. that is none of the names."""
    many = 0
    while f"n{many}" in names:
        many += 1
    return f"n{many}"


def freed(row, tree, shunned):
    """The tree, its own name made fresh where it is a name of the row or shunned."""
    if tree[0] != "rule" or not is_own(tree[1], tree[2]):
        return tree
    side, A, name, kids = tree[1:]
    taken = names_in(row) + shunned
    if name not in taken:
        return tree
    new = fresh(taken + names_within(tree))
    return ("rule", side, A, new, tuple([changed(kid, name, new) for kid in kids]))


def fitted(row, tree, shunned=None):
    """The tree, fitted to a row that has all statements of one that it fits; None shuns no names."""
    shunned_names = [] if shunned is None else list(shunned)
    free = freed(row, tree, shunned_names)
    kids = [fitted(above, kid, shunned_names) for above, kid in zip(rows_above(row, free), kids_of(free))]
    return with_kids(free, kids)
