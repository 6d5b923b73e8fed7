"""The desk: keeps derivations by names, and answers rows of text."""

from cutless.errors import NoName, NoProof, NoRow, TooGreat
from cutless.finding import find_out
from cutless.fitting import fitted
from cutless.parting import parted
from cutless.rows import more
from cutless.steps import clearing, is_too_great, step
from cutless.texts import MOST_STATEMENTS, is_small, read_proof, read_row, read_statement
from cutless.texts import shown, shown_list, shown_proof, shown_row
from cutless.trees import cut_of, cuts, fits

# What stands in a row behind its first word, in order: a name by which
# something is to be kept, a name by which something is kept, a text.
FORMS = {
    "keep": ("new", "text"),
    "find": ("new", "text"),
    "cut": ("new", "kept", "kept", "text"),
    "step": ("kept",),
    "clear": ("kept",),
    "row": ("kept",),
    "show": ("kept",),
    "cuts": ("kept",),
    "part": ("kept", "text"),
}


# Each of these takes a list of kept derivations (row, tree) and the row's last
# word, which is the text where its form has one. It changes nothing, so that a
# refusal can't either, but gives the answer and the derivation that is to be
# kept by the row's first name, or None.


def told_keep(given, text):
    """The derivation that the text tells."""
    row, tree = read_proof(text)
    if not fits(row, tree):
        raise NoProof("the tree does not fit the row")
    return "ok", (row, tree)


def told_find(given, text):
    """A derivation that is found, or the words by which the row does not hold."""
    row = read_row(text)
    has_tree, told = find_out(row)
    if has_tree:
        return "ok", (row, told)
    return f"no: {shown_list(told)}", None


def less(row, signed):
    """The signed statements of the row without this one."""
    return [each for each in row if each != signed]


def told_cut(given, text):
    """The cut of two derivations."""
    A = read_statement(text)
    (one, first), (other, second) = given
    row = more(less(one, ("right", A)), less(other, ("left", A)))
    kids = [fitted(more(row, [("right", A)]), first), fitted(more(row, [("left", A)]), second)]
    tree = cut_of(A, kids[0], kids[1])
    if is_too_great(tree) or len(row) > MOST_STATEMENTS:
        raise TooGreat("the cut is too great")
    return "ok", (row, tree)


def told_step(given, text):
    """The derivation behind one step."""
    row, tree = given[0]
    return "ok", (row, step(row, tree))


def told_clear(given, text):
    """The derivation behind all steps, and how many they are."""
    row, tree = given[0]
    trees = clearing(row, tree)
    return str(len(trees)), (row, trees[-1] if trees else tree)


def told_row(given, text):
    """The row as a text."""
    return shown_row(given[0][0]), None


def told_show(given, text):
    """The derivation as a text."""
    row, tree = given[0]
    return shown_proof(row, tree), None


def told_cuts(given, text):
    """How many cuts there are."""
    return str(cuts(given[0][1])), None


def told_part(given, text):
    """The statement between the part that the text's row tells and the rest."""
    row, tree = given[0]
    chosen = read_row(text)
    ones = tuple([each for each in row if each in chosen])
    others = tuple([each for each in row if each not in chosen])
    return shown(parted(ones, others, tree)[0]), None


DEEDS = {
    "keep": told_keep,
    "find": told_find,
    "cut": told_cut,
    "step": told_step,
    "clear": told_clear,
    "row": told_row,
    "show": told_show,
    "cuts": told_cuts,
    "part": told_part,
}


def words_of_row(row):
    """The words of a row that a desk knows: the first one, the names, and the text where it has one."""
    if not isinstance(row, str):
        raise NoRow("this is no text")
    first = row.split(" ")[0]
    if first not in FORMS:
        raise NoRow("no row begins so")
    form = FORMS[first]
    words = row.split(" ", len(form))
    if len(words) != 1 + len(form):
        raise NoRow("the row is too short")
    # All that is left lies in the last word, and a text alone may have blanks.
    if form[-1] != "text" and " " in words[-1]:
        raise NoRow("the row is too long")
    return words


class Desk:
    """Keeps derivations by names."""

    def __init__(self):
        self.kept = {}

    def given_by(self, form, words):
        """The kept derivations that the words tell where the form says so."""
        given = []
        for kind, word in zip(form, words):
            if kind == "new" and not is_small(word):
                raise NoName("this is no name")
            if kind == "kept" and word not in self.kept:
                raise NoName("nothing is kept by this name")
            if kind == "kept":
                given.append(self.kept[word])
        return given

    def say(self, row):
        """The answer to a row of text."""
        words = words_of_row(row)
        given = self.given_by(FORMS[words[0]], words[1:])
        deed = DEEDS[words[0]]
        answer, derivation = deed(given, words[-1])
        if derivation is not None:
            self.kept[words[1]] = derivation
        return answer
