"""Trees: which rows they are derivations of, what is in them, and their measure."""

from cutless.rows import closes, is_own, more, names_in, parts
from cutless.statements import BINDERS, names_of, signs

CLOSE = ("close",)


def cut_of(A, first, second):
    """The cut of A with these two kids."""
    return ("cut", A, (first, second))


def kids_of(tree):
    """The kids of the tree, as a tuple."""
    return () if tree == CLOSE else tree[-1]


def with_kids(tree, kids):
    """The tree with these kids in the place of its own; a close stays as it is."""
    return tree if tree == CLOSE else tree[:-1] + (tuple(kids),)


def added_above(tree):
    """For each kid, the signed statements that its row has more than the tree's row."""
    if tree[0] == "rule":
        return parts(tree[1], tree[2], tree[3])
    if tree[0] == "cut":
        return [[("right", tree[1])], [("left", tree[1])]]
    return []


def rows_above(row, tree):
    """The rows of the kids, where the tree stands at this row."""
    return [more(row, added) for added in added_above(tree)]


def stands_at(row, tree):
    """Whether the rule may stand at the row, its kids not being looked at."""
    side, A, name = tree[1:4]
    if (side, A) not in row:
        return False
    if (A[0] in BINDERS) != (name != ""):
        return False
    return not (is_own(side, A) and name in names_in(row))


def fits(row, tree):
    """Whether the tree is a derivation of the row."""
    if tree == CLOSE:
        return closes(row)
    if tree[0] == "rule" and not stands_at(row, tree):
        return False
    rows = rows_above(row, tree)
    kids = kids_of(tree)
    if not rows or len(rows) != len(kids):
        return False
    for above, kid in zip(rows, kids):
        if not fits(above, kid):
            return False
    return True


def trees_within(tree):
    """The tree and all trees above it, each ahead of its kids and the kids in their order."""
    found = [tree]
    for kid in kids_of(tree):
        found.extend(trees_within(kid))
    return found


def said(row, tree):
    """The signed statements of the row and of all rows above it, as one row."""
    return more(row, [each for inner in trees_within(tree) for added in added_above(inner) for each in added])


def nodes(tree):
    """How many closes, rules and cuts are in the tree."""
    return len(trees_within(tree))


def height(tree):
    """How high the tree is, a close being 1 high."""
    return 1 + max([height(kid) for kid in kids_of(tree)], default=0)


def cuts_within(tree):
    """The cuts in the tree, in the order of its nodes."""
    return [inner for inner in trees_within(tree) if inner[0] == "cut"]


def cuts(tree):
    """How many cuts are in the tree."""
    return len(cuts_within(tree))


def names_at(tree):
    """The names of the tree's own node: of its statement, and its own where it has one."""
    if tree[0] == "rule":
        return names_of(tree[2]) + ([tree[3]] if tree[3] != "" else [])
    if tree[0] == "cut":
        return names_of(tree[1])
    return []


def names_within(tree):
    """The names of the rules and of the statements in the tree, sorted, each once."""
    return sorted({name for inner in trees_within(tree) for name in names_at(inner)})


def cut_measure(tree):
    """The measure of one cut: signs, whether a cut is above it, and how high its kids are if none is."""
    A, (first, second) = tree[1:]
    if cuts(tree) > 1:
        return (signs(A), 1, 0)
    return (signs(A), 0, height(first) + height(second))


def measure(tree):
    """The measures of the cuts in the tree, sorted falling."""
    return sorted([cut_measure(cut) for cut in cuts_within(tree)], reverse=True)
