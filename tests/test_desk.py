import inspect
import unittest

from cutless.desk import Desk
from cutless.errors import NoCut, NoName, NoProof, NoRow, NoText, NotCleared, NotPlain, TooGreat
from cutless.finding import find_out
from cutless.fitting import fitted
from cutless.parting import parted
from cutless.rows import more, row_of
from cutless.steps import clearing, step
from cutless.texts import read_proof, read_row, shown, shown_proof, shown_row
from cutless.trees import cuts, fits, height, nodes
from tests.samples import (
    BASE,
    CLOSE,
    NO,
    P,
    Q,
    R,
    YES,
    based,
    both,
    bush,
    carried_cuts,
    cut,
    either,
    every,
    grown,
    many_cuts,
    raised,
    right,
    some,
    sought_derivations,
    word,
)

PA = word("p", "a")
EVERY = every(word("p", "0"))
SOME = some(word("p", "0"))
NO_ROWS = (None, True, False, 0, 7, b"row a", ["row", "a"], ("row", "a"), {"row": "a"}, (), [], object(), str)
WORDS = ("keep", "find", "cut", "step", "clear", "row", "show", "cuts", "part")

# Three derivations, the second with a cut.
ONE = "if p q, p => q; left if p q; close; close"
TWO = "p => or p q; cut p; close; right or p q; close"
ALL = "all A p(A) => p(a); left all A p(A) by a; close"


class AtDesk(unittest.TestCase):
    """A desk that keeps three derivations, and what a row does at it."""

    def setUp(self):
        self.desk = Desk()
        for name, text in (("one", ONE), ("two", TWO), ("all", ALL)):
            self.desk.say(f"keep {name} {text}")

    def keep(self, name, row, tree):
        self.assertIs(fits(row, tree), True)
        self.assertEqual(self.desk.say(f"keep {name} {shown_proof(row, tree)}"), "ok")

    def kept(self, name):
        return read_proof(self.desk.say(f"show {name}"))

    def state(self):
        """All that can be asked of derivations by names that the tests use."""
        told = {}
        for name in ("one", "two", "all", "new", "a", "b", "abcdefgh", "great", "other", "yes", "keep"):
            try:
                told[name] = [self.desk.say(f"{word} {name}") for word in ("show", "row", "cuts")]
            except NoName:
                told[name] = None
        return told

    def assertRefused(self, refusal, row):
        before = self.state()
        with self.assertRaises(refusal, msg=repr(row)[:200]) as taken:
            self.desk.say(row)
        self.assertIs(type(taken.exception), refusal)
        self.assertEqual(self.state(), before)

    def assertAnswer(self, row, answer):
        """The answer is a text, and nothing is changed."""
        before = self.state()
        told = self.desk.say(row)
        self.assertIs(type(told), str)
        self.assertEqual(told, answer)
        self.assertEqual(self.state(), before)

    def assertKept(self, row, name, derivation, answer="ok"):
        """The answer is that, and nothing is changed but what is kept by the name."""
        before = self.state()
        told = self.desk.say(row)
        self.assertIs(type(told), str)
        self.assertEqual(told, answer)
        self.assertEqual(self.kept(name), derivation)
        self.assertEqual({**self.state(), name: None}, {**before, name: None})


class Interface(AtDesk):
    def test_the_arguments_are_called_as_told(self):
        self.assertEqual(list(inspect.signature(Desk).parameters), [])
        self.assertEqual(list(inspect.signature(Desk.say).parameters)[1:], ["row"])
        self.assertEqual(Desk().say(row="find a p => p"), "ok")

    def test_a_new_desk_keeps_nothing(self):
        for name in ("a", "one", "new"):
            for word in ("step", "clear", "row", "show", "cuts"):
                with self.assertRaises(NoName):
                    Desk().say(f"{word} {name}")

    def test_two_desks_know_nothing_of_one_another(self):
        first, second = Desk(), Desk()
        first.say("find a p => p")
        with self.assertRaises(NoName):
            second.say("show a")
        second.say("find a q => q")
        first.say("find b p => p")
        self.assertEqual(first.say("show a"), "p => p; close")
        self.assertEqual(second.say("show a"), "q => q; close")
        with self.assertRaises(NoName):
            second.say("show b")
        first.say("cut a a b p")
        self.assertEqual((first.say("cuts a"), second.say("cuts a")), ("1", "0"))


class WhatIsNoRow(AtDesk):
    def test_what_is_no_text(self):
        for each in NO_ROWS:
            self.assertRefused(NoRow, each)

    def test_words_that_begin_no_row(self):
        for row in (
            "", " ", "  ", "a", "one", "yes", "p => p", "Keep a p => p; close", "ROW one", "rows one", "ro one",
            "shows one", "kept one", "drop one", "help", "cute one", "row\tone", "row\none", "row,one", "row;one",
            "\trow one", "\nrow one", " row one", "  row one", "keep\ta p => p; close", "=> one", "- one",
            "row\u00a0one", "say one", "new one",
        ):
            self.assertRefused(NoRow, row)

    def test_words_alone(self):
        for word in WORDS:
            self.assertRefused(NoRow, word)

    def test_without_the_blank_ahead_of_the_text(self):
        for row in (
            "keep new", "find new", "part one", "cut new one two", "cut new one", "cut new", "keep ", "find ",
            "part ", "cut ", "cut  ", "cut new ", "cut new one ", "cut   ", "part nobody", "keep 5", "cut 1 2 3",
            "cut A B C",
        ):
            self.assertRefused(NoRow, row)

    def test_more_words_than_the_row_has(self):
        for word in ("step", "clear", "row", "show", "cuts"):
            for behind in (
                " ", "one two", "one ", "one  ", " one", "  ", "  one", "one p => q", "no one", "A 1", "two \n",
            ):
                self.assertRefused(NoRow, f"{word} {behind}")


class WhatIsNoName(AtDesk):
    WRONG = (
        "", "A", "Ab", "aB", "ONE", "a1", "1", "n0", "one1", "abcdefghi", "abcdefghij", "a-b", "a_b", "a.b", "a,b",
        "a;b", "one,", "\u00e9", "on\u00e9", "\u0430", "\uff41", "a\n", "\na", "one\n", "a\t", "\t", "a\u00a0",
        "\u00a0", "\x00", "a\x00", "-", "\u00b2", "a\u0660", "(a)", "p(a)", "a\r",
    )

    def test_names_that_are_none(self):
        for name in self.WRONG:
            self.assertRefused(NoName, f"keep {name} p => p; close")
            self.assertRefused(NoName, f"find {name} p => p")
            self.assertRefused(NoName, f"cut {name} one two p")
            self.assertRefused(NoName, f"cut new {name} two p")
            self.assertRefused(NoName, f"cut new one {name} p")
            self.assertRefused(NoName, f"part {name} p => -")
            for word in ("step", "clear", "row", "show", "cuts"):
                self.assertRefused(NoName, f"{word} {name}")

    def test_names_by_which_nothing_is_kept(self):
        for name in ("new", "a", "on", "onee", "twoo", "abcdefgh", "keep", "cut"):
            self.assertRefused(NoName, f"cut other {name} two p")
            self.assertRefused(NoName, f"cut other one {name} p")
            self.assertRefused(NoName, f"cut {name} {name} one p")
            self.assertRefused(NoName, f"cut {name} one {name} p")
            self.assertRefused(NoName, f"part {name} p => -")
            for word in ("step", "clear", "row", "show", "cuts"):
                self.assertRefused(NoName, f"{word} {name}")

    def test_names_of_one_to_eight_small_letters(self):
        for many in range(1, 9):
            for letter in "az":
                name = letter * many
                self.assertKept(f"keep {name} p => p; close", name, (row_of([P], [P]), CLOSE))
        for name in (
            "keep", "find", "cut", "step", "clear", "row", "show", "cuts", "part", "yes", "not", "all", "close",
            "by",
        ):
            self.assertKept(f"find {name} p => p", name, (row_of([P], [P]), CLOSE))
            self.assertAnswer(f"row {name}", "p => p")
            self.assertAnswer(f"show {name}", "p => p; close")
            self.assertAnswer(f"cuts {name}", "0")
            self.assertAnswer(f"part {name} p => -", "p")
        self.assertRefused(NoName, "keep aaaaaaaaa p => p; close")


class Order(AtDesk):
    """NoRow; NoName; then NoText; then as told with each."""

    def test_no_name_ahead_of_no_text(self):
        for row in (
            "keep A no derivation", "keep  ", "keep  p => p; close", "keep A ", "find 1 p", "find  ",
            "find A all X", "cut A one two P", "cut new nobody two P", "cut new one nobody ", "cut    ",
            "part nobody p", "part  ", "part A p =>", "part nobody ",
        ):
            self.assertRefused(NoName, row)

    def test_no_name_ahead_of_the_others(self):
        self.keep("great", BASE, bush(400))
        for row in (
            "keep A p => q; close", "find A all X p(X) => p", f"find A {'not ' * 9}p => p", "cut A great great p",
            "cut new great nobody p",
        ):
            self.assertRefused(NoName, row)

    def test_texts_without_signs(self):
        for row in ("keep new ", "find new ", "cut new one two ", "part one "):
            self.assertRefused(NoText, row)

    def test_texts_that_are_none(self):
        for row in (
            "keep new p", "keep new p => p", "keep new  p => p; close", "keep new p => p; close ",
            "keep new p => p; close; close", "keep new => p; close", "keep new two p => p; close",
            "keep new P => P; close", "keep new p => q; left p; close", "find new p", "find new  p => p",
            "find new p => p ", "find new p => p; close", "find new p,q => p", "find new all X => p",
            "find new two p => p", "find new  ", "cut new one two  p", "cut new one two p ", "cut new one two p q",
            "cut new one two P", "cut new one two all", "cut new one two  ", "cut new one two p, q", "part one p",
            "part one  p => -", "part one p => - ", "part one p =>", "part two p", "part one - => - => -",
            "part one two p => -", "part one  ",
        ):
            self.assertRefused(NoText, row)

    def test_no_text_ahead_of_the_others(self):
        self.keep("great", BASE, bush(400))
        # The texts of these are none for more than one reason, or the derivation would be refused, too.
        self.assertRefused(NoText, "keep new p => q; close; close")
        self.assertRefused(NoText, "find new all X p(X) => p(X)")
        self.assertRefused(NoText, "find new " + "not " * 40 + "p => p")
        self.assertRefused(NoText, "cut new great great P")
        self.assertRefused(NoText, "part two p => P")

    def test_bounds_of_texts(self):
        self.assertRefused(NoText, "keep new " + shown_proof(BASE, bush(601)))
        self.assertRefused(NoText, "keep new " + shown_proof(BASE, based(38)))
        self.assertRefused(NoText, "find new " + ", ".join(["p"] * 41) + " => p")
        self.assertRefused(NoText, "cut new one two " + "not " * 40 + "p")
        self.assertRefused(NoText, "part one " + ", ".join(["p"] * 41) + " => p")
        self.assertKept("keep new " + shown_proof(BASE, bush(600)), "new", (BASE, bush(600)))
        self.assertKept("keep new " + shown_proof(BASE, based(37)), "new", (BASE, based(37)))
        self.assertKept("find new " + ", ".join(["p"] * 39) + " => p", "new", (row_of([P], [P]), CLOSE))


class Keep(AtDesk):
    def test_a_derivation_is_kept(self):
        for row, tree in sought_derivations(40) + carried_cuts()[::20]:
            self.assertKept(f"keep new {shown_proof(row, tree)}", "new", (row, tree))

    def test_a_name_kept_again(self):
        self.assertKept("keep one q => q; close", "one", (row_of([Q], [Q]), CLOSE))
        self.assertEqual(self.desk.say("show one"), "q => q; close")
        self.assertKept(f"keep one {TWO}", "one", read_proof(TWO))
        self.assertKept("find one no => -", "one", (row_of([NO], []), CLOSE))

    def test_a_derivation_is_shown_in_its_own_letters_and_order(self):
        self.desk.say("keep new r, q, all Z p(Z), q => p(a), p; left all X p(X) by a; close")
        self.assertEqual(self.desk.say("show new"), "all A p(A), q, r => p, p(a); left all A p(A) by a; close")
        self.assertEqual(self.desk.say("row new"), "all A p(A), q, r => p, p(a)")

    def test_a_tree_that_does_not_fit_its_row(self):
        for text in (
            "p => q; close", "- => -; close", "p => p; left not q; close", "p => p; cut q; close; right not p; close",
            "p(a) => all X p(X); right all X p(X) by a; close", "some X p(X) => p(a); left some X p(X) by a; close",
            "and p q => r; left and p q; close", "all X p(X) => p(b); left all X p(X) by a; close",
        ):
            self.assertRefused(NoProof, f"keep new {text}")
            self.assertRefused(NoProof, f"keep one {text}")


class Find(AtDesk):
    def test_a_found_derivation_is_kept(self):
        for text in (
            "p => p", "- => yes", "no => -", "p, if p q => q", "if p q => if not q not p", "- => or p not p",
            "p, p, q => q", "or p q => or q p", "p(a) => or p(b) p(a)", "not not p => p", "and p q, not p => -",
        ):
            row = read_row(text)
            self.assertKept(f"find new {text}", "new", (row, find_out(row)[1]))
            self.assertIs(fits(*self.kept("new")), True)
            self.assertEqual(self.desk.say("cuts new"), "0")

    def test_the_same_each_time(self):
        self.desk.say("find a if p q, if q r => if p r")
        first = self.desk.say("show a")
        self.desk.say("find b if q r, if p q => if p r")
        self.assertEqual(self.desk.say("show b"), first)

    def test_words_by_which_a_row_does_not_hold(self):
        for text, answer in (
            ("- => -", "no: -"),
            ("- => p", "no: -"),
            ("not p => -", "no: -"),
            ("yes => no", "no: -"),
            ("p => q", "no: p"),
            ("q, p => r", "no: p, q"),
            ("p(b), p(a), p => p(a,b)", "no: p, p(a), p(b)"),
            ("and q p => and p r", "no: p, q"),
            ("- => if p(a,b,c) q", "no: p(a,b,c)"),
        ):
            self.assertAnswer(f"find new {text}", answer)
            self.assertAnswer(f"find one {text}", answer)
            self.assertRefused(NoName, "show new")
        self.assertEqual(self.desk.say("show one"), ONE)

    def test_not_plain(self):
        for text in ("all X p(X) => p(a)", "- => some X p", "p => p, not all X p", "no, if p some X p(X) => -"):
            self.assertRefused(NotPlain, f"find new {text}")
            self.assertRefused(NotPlain, f"find one {text}")
        self.assertRefused(NotPlain, "find new all X " + "not " * 9 + "p(X) => -")
        self.assertRefused(NotPlain, "find new " + "not " * 9 + "p => all X p(X)")

    def test_too_great(self):
        nine = "and p " * 9 + "p"
        for text in ("not " * 9 + "p => p", "not not not not p, not not q => not not not p", f"p => p, {nine}"):
            self.assertRefused(TooGreat, f"find new {text}")
            self.assertRefused(TooGreat, f"find one {text}")
        self.assertEqual(self.desk.say("find new " + "not " * 8 + "p => p"), "ok")


class Cut(AtDesk):
    def told(self, A, one, other):
        """The row and the tree of a cut of A of two derivations."""
        row = row_of(
            [B for side, B in one[0] if side == "left"] + [B for side, B in other[0] if side == "left" and B != A],
            [B for side, B in one[0] if side == "right" and B != A] + [B for side, B in other[0] if side == "right"],
        )
        first = fitted(more(row, [("right", A)]), one[1])
        return row, cut(A, first, fitted(more(row, [("left", A)]), other[1]))

    def assertCut(self, new, one, other, A):
        derivation = self.told(A, self.kept(one), self.kept(other))
        self.assertIs(fits(*derivation), True)
        self.assertKept(f"cut {new} {one} {other} {shown(A)}", new, derivation)

    def test_a_cut_of_two(self):
        self.desk.say("find a p, if p q => q")
        self.desk.say("find b q => or q r")
        self.assertEqual(self.desk.say("cut new a b q"), "ok")
        told = "if p q, p => or q r; cut q; left if p q; close; close; right or q r; close"
        self.assertEqual(self.desk.say("show new"), told)
        self.assertEqual(self.desk.say("row new"), "if p q, p => or q r")
        self.assertEqual(self.desk.say("cuts new"), "1")
        self.assertEqual(self.desk.say("cuts a"), "0")

    def test_only_the_one_side_of_each_is_taken_away(self):
        self.desk.say("keep a p, q => p, q; close")
        self.assertEqual(self.desk.say("cut b a a p"), "ok")
        self.assertEqual(self.desk.say("show b"), "p, q => p, q; cut p; close; close")
        self.desk.say("keep a q => p, q; close")
        self.desk.say("keep b p, q => q; close")
        self.desk.say("cut new a b p")
        self.assertEqual(self.desk.say("row new"), "q => q")
        self.desk.say("cut new b a p")
        self.assertEqual(self.desk.say("row new"), "p, q => p, q")

    def test_a_statement_that_the_rows_have_not(self):
        for A in (R, both(P, Q), EVERY, word("p", "b"), YES, NO):
            self.assertCut("new", "one", "all", A)
            self.assertCut("new", "all", "two", A)

    def test_the_same_names(self):
        self.assertCut("new", "one", "one", Q)
        self.assertCut("new", "two", "two", P)
        self.assertCut("one", "one", "two", Q)
        self.setUp()
        self.assertCut("two", "one", "two", P)
        self.setUp()
        self.assertCut("two", "two", "two", either(P, Q))
        self.assertEqual(self.desk.say("cuts two"), "3")
        self.assertCut("two", "two", "two", either(P, Q))
        self.assertEqual(self.desk.say("cuts two"), "7")

    def test_both_trees_are_fitted_to_their_rows(self):
        mine = "all A p(A) => all A p(A); right all A p(A) by a; left all A p(A) by a; close"
        self.desk.say(f"keep a {mine}")
        self.desk.say("keep b q(a), all X p(X) => q(a); close")
        self.assertEqual(self.desk.say("cut new a b all X p(X)"), "ok")
        told = "all A p(A), q(a) => q(a); cut all A p(A); right all A p(A) by n0; left all A p(A) by n0; close; close"
        self.assertEqual(self.desk.say("show new"), told)
        self.desk.say("keep b all X p(X) => p(b); left all X p(X) by b; close")
        self.desk.say("cut new b a p(a)")
        told = "all A p(A) => all A p(A), p(b); cut p(a); left all A p(A) by b; close; "
        told += "right all A p(A) by n0; left all A p(A) by n0; close"
        self.assertEqual(self.desk.say("show new"), told)
        self.assertIs(fits(*self.kept("new")), True)
        self.desk.say("cut new a b p(a)")
        told = "all A p(A) => all A p(A), p(b); cut p(a); "
        told += "right all A p(A) by n0; left all A p(A) by n0; close; left all A p(A) by b; close"
        self.assertEqual(self.desk.say("show new"), told)
        self.assertEqual(self.desk.say("show a"), mine)

    def test_over_many_derivations(self):
        given = sought_derivations(40)
        for (one, first), (other, second) in zip(given, given[1:]):
            self.keep("a", one, first)
            self.keep("b", other, second)
            statements = [A for side, A in one if side == "right"] + [A for side, A in other if side == "left"]
            for A in statements + [word("p", "a"), some(word("r", "0", "n1"))]:
                self.assertCut("new", "a", "b", A)

    def test_more_than_600_nodes(self):
        for many, other in ((300, 299), (299, 300), (3, 596), (596, 3)):
            self.keep("a", BASE, bush(many))
            self.keep("b", BASE, bush(other))
            self.assertCut("new", "a", "b", R)
            self.assertEqual(nodes(self.kept("new")[1]), 600)
            self.keep("b", BASE, bush(other + 1))
            self.assertRefused(TooGreat, "cut new a b r")
            self.assertRefused(TooGreat, "cut a a b r")

    def test_higher_than_40(self):
        for many, other in ((36, 0), (0, 36), (36, 36)):
            self.keep("a", BASE, based(many))
            self.keep("b", BASE, based(other))
            self.assertCut("new", "a", "b", R)
            self.assertEqual(height(self.kept("new")[1]), 40)
            self.keep("a", BASE, based(many + 1))
            self.keep("b", BASE, based(other + 1))
            self.assertRefused(TooGreat, "cut new a b r")
            self.assertRefused(TooGreat, "cut b a b r")

    def test_more_than_forty_statements_in_the_row(self):
        words = [word(f"{a}{b}") for a in "abcdefgh" for b in "uvwxyz"]
        for many in (0, 1, 20, 37, 38):
            self.keep("a", row_of([P] + words[:many], [P]), CLOSE)
            self.keep("b", row_of([P], [P] + words[many:38]), CLOSE)
            self.assertCut("new", "a", "b", R)
            self.assertEqual(len(self.kept("new")[0]), 40)
        for many in (1, 20, 37, 38):
            self.keep("a", row_of([P] + words[:many], [P]), CLOSE)
            self.keep("b", row_of([P], [P] + words[many:39]), CLOSE)
            self.assertRefused(TooGreat, "cut new a b r")
            self.assertRefused(TooGreat, "cut a a b r")

    def test_what_both_rows_have_counts_once(self):
        words = [word(f"{a}{b}") for a in "abcdefgh" for b in "uvwxyz"]
        self.keep("a", row_of([P] + words[:20], [P]), CLOSE)
        self.keep("b", row_of([P] + words[:20], [P] + words[20:38]), CLOSE)
        self.assertCut("new", "a", "b", R)
        self.assertEqual(len(self.kept("new")[0]), 40)

    def test_the_row_is_counted_without_the_cuts_statement(self):
        words = [word(f"{a}{b}") for a in "abcdefgh" for b in "uvwxyz"]
        self.keep("a", row_of([NO] + words[:20], [R]), CLOSE)
        self.keep("b", row_of([NO, R], words[20:39]), CLOSE)
        self.assertCut("new", "a", "b", R)
        self.assertEqual(len(self.kept("new")[0]), 40)
        self.assertRefused(TooGreat, "cut new b a r")
        self.keep("b", row_of([NO, R], words[20:40]), CLOSE)
        self.assertRefused(TooGreat, "cut new a b r")


class StepAndClear(AtDesk):
    def test_a_step(self):
        self.assertKept("step two", "two", (row_of([P], [either(P, Q)]), right(either(P, Q), CLOSE)))
        self.assertRefused(NoCut, "step two")
        self.assertEqual(self.desk.say("cuts two"), "0")

    def test_steps_are_those_of_clearing(self):
        for row, tree in carried_cuts()[::15]:
            try:
                told = clearing(row, tree)
            except TooGreat:
                continue
            self.keep("a", row, tree)
            self.keep("b", row, tree)
            for each in told:
                self.assertKept("step a", "a", (row, each))
            self.assertRefused(NoCut, "step a")
            self.assertKept("clear b", "b", (row, told[-1]), answer=str(len(told)))
            self.assertKept("clear b", "b", (row, told[-1]), answer="0")

    def test_no_cut(self):
        self.assertRefused(NoCut, "step one")
        self.assertRefused(NoCut, "step all")
        self.keep("great", BASE, bush(600))
        self.assertRefused(NoCut, "step great")

    def test_clear_tells_the_number_of_steps(self):
        self.assertKept("clear one", "one", read_proof(ONE), answer="0")
        self.assertKept("clear two", "two", (row_of([P], [either(P, Q)]), right(either(P, Q), CLOSE)), answer="1")
        for many in (1, 2, 7, 99, 100):
            self.keep("a", row_of([P], [P]), many_cuts(many))
            self.assertKept("clear a", "a", (row_of([P], [P]), CLOSE), answer=str(many))
            self.assertEqual(self.desk.say("cuts a"), "0")
            self.assertEqual(self.desk.say("clear a"), "0")

    def test_a_step_that_is_too_great(self):
        for tree in (grown(bush(294)), raised(based(35))):
            self.keep("great", BASE, tree)
            self.assertRefused(TooGreat, "step great")
            self.assertRefused(TooGreat, "clear great")
            self.assertEqual(self.kept("great"), (BASE, tree))
        for tree in (grown(bush(293), 1), raised(based(34))):
            self.keep("great", BASE, tree)
            self.assertKept("step great", "great", (BASE, step(BASE, tree)))

    def test_more_than_a_hundred_steps(self):
        self.keep("great", row_of([P], [P]), many_cuts(101))
        self.assertRefused(TooGreat, "clear great")
        self.assertEqual(self.desk.say("cuts great"), "101")
        self.assertEqual(self.desk.say("step great"), "ok")
        self.assertEqual(self.desk.say("clear great"), "100")

    def test_a_later_step_that_is_too_great(self):
        beneath = cut(Q, based(), grown(bush(294)))
        self.keep("great", BASE, beneath)
        self.assertRefused(TooGreat, "clear great")
        self.assertEqual(self.kept("great"), (BASE, beneath))


class RowShowCuts(AtDesk):
    def test_what_is_kept_is_told(self):
        self.assertAnswer("row one", "if p q, p => q")
        self.assertAnswer("show one", ONE)
        self.assertAnswer("cuts one", "0")
        self.assertAnswer("row two", "p => or p q")
        self.assertAnswer("show two", TWO)
        self.assertAnswer("cuts two", "1")
        self.assertAnswer("row all", "all A p(A) => p(a)")
        self.assertAnswer("show all", ALL)

    def test_over_many_derivations(self):
        for row, tree in sought_derivations(40) + carried_cuts()[::20]:
            self.keep("a", row, tree)
            self.assertAnswer("row a", shown_row(row))
            self.assertAnswer("show a", shown_proof(row, tree))
            self.assertAnswer("cuts a", str(cuts(tree)))
        self.keep("a", row_of([P], [P]), many_cuts(150))
        self.assertAnswer("cuts a", "150")

    def test_a_row_of_nothing_on_a_hand(self):
        self.desk.say("find a - => yes")
        self.assertAnswer("row a", "- => yes")
        self.assertAnswer("show a", "- => yes; close")
        self.desk.say("find a no => -")
        self.assertAnswer("row a", "no => -")


class Part(AtDesk):
    def test_the_statement_between(self):
        self.assertAnswer("part one p => -", "and p yes")
        self.assertAnswer("part one if p q => -", "or not p q")
        self.assertAnswer("part all all X p(X) => -", "all A p(A)")
        self.assertAnswer("part all - => p(a)", "some A not p(A)")

    def test_the_whole_row_and_nothing(self):
        self.assertAnswer("part one p, if p q => q", "or no no")
        self.assertAnswer("part one - => -", "and yes yes")
        self.assertAnswer("part all - => -", "yes")
        self.assertAnswer("part all all X p(X) => p(a)", "no")

    def test_statements_that_the_row_has_not(self):
        self.assertAnswer("part one p, r, not q, all X p(X) => r, or q q", "and p yes")
        # The side counts, too: these are in the row on the other hand alone.
        self.assertAnswer("part one q => p, if p q", "and yes yes")
        self.assertAnswer("part one r => s", "and yes yes")

    def test_statements_written_twice_and_in_another_order(self):
        self.assertAnswer("part one if p q, p, if p q, p => -", self.desk.say("part one p, if p q => -"))

    def test_not_cleared(self):
        self.assertRefused(NotCleared, "part two p => -")
        self.assertRefused(NotCleared, "part two - => -")
        self.assertEqual(self.desk.say("clear two"), "1")
        self.assertAnswer("part two p => -", "p")

    def test_each_dealing_of_many_derivations(self):
        many = 0
        for row, tree in sought_derivations(150):
            if cuts(tree):
                continue
            self.keep("a", row, tree)
            for chosen in range(2 ** len(row)):
                ones = tuple(each for at, each in enumerate(row) if chosen >> at & 1)
                others = tuple(each for each in row if each not in ones)
                self.assertAnswer(f"part a {shown_row(ones)}", shown(parted(ones, others, tree)[0]))
                many += 1
        self.assertGreater(many, 100)


if __name__ == "__main__":
    unittest.main()
