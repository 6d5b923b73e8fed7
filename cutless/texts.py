"""Statements, rows and derivations, read from texts and told as texts."""

from cutless.errors import NoText
from cutless.rows import row_of
from cutless.statements import BINDERS, LEAVES, inside, is_place
from cutless.steps import MOST_HEIGHT, MOST_NODES
from cutless.trees import CLOSE, added_above, height, trees_within, with_kids

LETTERS = "ABCDEFGHIJKLMNOPQRSTUVWXYZ"
WITHIN = {"yes": 0, "no": 0, "not": 1, "and": 2, "or": 2, "if": 2}
LONGEST = 8
MOST_TERMS = 3
MOST_PARTS = 40
MOST_NESTED = 10
MOST_STATEMENTS = 40
# A statement of forty parts, and a node with it, never has so many words.
MOST_WORDS = 100


def is_small(text):
    """Whether the text is one to eight small letters."""
    return 1 <= len(text) <= LONGEST and all(["a" <= sign <= "z" for sign in text])


def is_name(text):
    """Whether the text is a name: one to eight small letters and figures, a letter first."""
    if not 1 <= len(text) <= LONGEST or not "a" <= text[0] <= "z":
        return False
    return all(["a" <= sign <= "z" or "0" <= sign <= "9" for sign in text])


def pieces(text, between):
    """The pieces of the text that are parted by what stands between."""
    if not isinstance(text, str):
        raise NoText("this is no text")
    return text.split(between)


def words_in(text):
    """The words of the text, parted by single blanks."""
    words = pieces(text, " ")
    # Refused ahead of reading, which would go as deep as there are words.
    if len(words) > MOST_WORDS:
        raise NoText("the text has too many words")
    return words


def read_term(text, letters):
    """The term of this text; the letters are those of the all and some around, the nearest one first."""
    if text in letters:
        return str(letters.index(text))
    if not is_name(text):
        raise NoText("a term is neither a name nor a letter of an all or some around")
    return text


def read_word(text, letters):
    """The word statement of this text."""
    word, bracket, rest = text.partition("(")
    if not is_small(word) or word in WITHIN or word in BINDERS:
        raise NoText("this is no word")
    if bracket == "":
        return ("word", word, ())
    terms = rest[:-1].split(",")
    if not rest.endswith(")") or len(terms) > MOST_TERMS:
        raise NoText("these are no terms")
    return ("word", word, tuple([read_term(term, letters) for term in terms]))


def letters_within(words, letters):
    """The letters around what stands in the all or some that the words begin with."""
    if len(letters) == MOST_NESTED:
        raise NoText("too many all and some stand one within another")
    if len(words) < 2 or len(words[1]) != 1 or words[1] not in LETTERS:
        raise NoText("an all or some has no capital letter")
    return [words[1]] + letters


def read_first(words, letters):
    """The statement that the words begin with, and the words behind it."""
    if not words:
        raise NoText("a statement is missing")
    kind = words[0]
    if kind in BINDERS:
        body, behind = read_first(words[2:], letters_within(words, letters))
        return (kind, body), behind
    if kind not in WITHIN:
        return read_word(kind, letters), words[1:]
    A, behind = (kind,), words[1:]
    for at in range(WITHIN[kind]):
        B, behind = read_first(behind, letters)
        A += (B,)
    return A, behind


def part_count(A):
    """How many parts A has: itself and the statements within it."""
    return 1 + sum([part_count(B) for B in inside(A)])


def read_bounded(words):
    """The statement that the words begin with, refused where it has too many parts, and the words behind it."""
    A, behind = read_first(words, [])
    if part_count(A) > MOST_PARTS:
        raise NoText("the statement has too many parts")
    return A, behind


def read_statement(text):
    """The statement that the text tells."""
    A, behind = read_bounded(words_in(text))
    if behind:
        raise NoText("there is more than a statement")
    return A


def read_row(text):
    """The row that the text tells."""
    hands = [[] if hand == "-" else hand.split(", ") for hand in pieces(text, " => ")]
    if len(hands) != 2:
        raise NoText("a row has a left and a right hand")
    lefts, rights = hands
    if len(lefts) + len(rights) > MOST_STATEMENTS:
        raise NoText("the row has too many statements")
    return row_of([read_statement(each) for each in lefts], [read_statement(each) for each in rights])


def read_rule_name(A, behind):
    """The name of a rule of A, of the words behind A."""
    if A[0] not in BINDERS and not behind:
        return ""
    if A[0] in BINDERS and len(behind) == 2 and behind[0] == "by" and is_name(behind[1]):
        return behind[1]
    raise NoText("a rule has a name for an all or some, and for these alone")


def read_node(text):
    """The node that the text tells, as a tree without kids."""
    if text == "close":
        return CLOSE
    words = words_in(text)
    A, behind = read_bounded(words[1:])
    if words[0] == "cut" and not behind:
        return ("cut", A, ())
    if words[0] in ("left", "right") and A[0] not in LEAVES:
        return ("rule", words[0], A, read_rule_name(A, behind), ())
    raise NoText("this is no node")


def tree_of(nodes):
    """The tree of these nodes, each ahead of its kids; they come without kids."""
    # From the last node to the first, the kids are there ahead of their node,
    # and a tree that is too high is refused before it grows further.
    trees = []
    for node in reversed(nodes):
        many = len(added_above(node))
        if len(trees) < many:
            raise NoText("the tree needs more nodes")
        tree = with_kids(node, trees[:many])
        if height(tree) > MOST_HEIGHT:
            raise NoText("the tree is too high")
        trees = [tree] + trees[many:]
    if len(trees) != 1:
        raise NoText("there are more nodes than the tree needs, or none")
    return trees[0]


def read_proof(text):
    """The tuple (row, tree) that the text tells; whether the tree fits the row isn't asked."""
    told = pieces(text, "; ")
    if len(told) > 1 + MOST_NODES:
        raise NoText("the tree has too many nodes")
    return (read_row(told[0]), tree_of([read_node(each) for each in told[1:]]))


def shown_word(A, depth):
    """The text of a word statement within so many all and some."""
    terms = [LETTERS[depth - 1 - int(term)] if is_place(term) else term for term in A[2]]
    listed = ",".join(terms)
    return f"{A[1]}({listed})" if terms else A[1]


def shown_within(A, depth):
    """The text of what stands within so many all and some."""
    kind = A[0]
    if kind == "word":
        return shown_word(A, depth)
    if kind in BINDERS:
        return f"{kind} {LETTERS[depth]} {shown_within(A[1], depth + 1)}"
    return " ".join([kind] + [shown_within(B, depth) for B in inside(A)])


def shown(A):
    """The text that tells the statement."""
    return shown_within(A, 0)


def shown_list(statements):
    """The text that tells these statements, in their order."""
    return ", ".join([shown(A) for A in statements]) if statements else "-"


def shown_row(row):
    """The text that tells the row."""
    lefts = [A for side, A in row if side == "left"]
    rights = [A for side, A in row if side == "right"]
    return f"{shown_list(lefts)} => {shown_list(rights)}"


def shown_node(tree):
    """The text that tells the tree's own node."""
    if tree == CLOSE:
        return "close"
    if tree[0] == "cut":
        return f"cut {shown(tree[1])}"
    side, A, name = tree[1:4]
    return f"{side} {shown(A)} by {name}" if A[0] in BINDERS else f"{side} {shown(A)}"


def shown_proof(row, tree):
    """The text that tells the row and the tree."""
    return "; ".join([shown_row(row)] + [shown_node(inner) for inner in trees_within(tree)])
