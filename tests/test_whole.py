"""What the document promises over the whole program, all modules together."""

import copy
import importlib
import inspect
import itertools
import random
import unittest

from cutless.desk import Desk
from cutless.errors import CutlessError, TooGreat
from cutless.finding import find_out
from cutless.parting import parted
from cutless.rows import more, names_in, row_of
from cutless.statements import words_of
from cutless.steps import clearing
from cutless.texts import read_proof, read_row, read_statement, shown, shown_proof, shown_row
from cutless.trees import cuts, fits, measure, said
from cutless.worlds import holds, so
from tests.samples import (
    CLOSE,
    NO,
    P,
    Q,
    R,
    YES,
    assert_between,
    both,
    carried_cuts,
    cut,
    dealings,
    either,
    every,
    is_part,
    left,
    neg,
    right,
    sought_derivations,
    when,
    word,
    worlds_for,
)

PA = word("p", "a")
EVERY = every(word("p", "0"))
WORLD = (2, {"a": 1}, {"p": [(1,), ()]})
ROW = row_of([both(P, Q), EVERY], [either(Q, R), PA])
TREE = cut(Q, left(both(P, Q), CLOSE), right(either(Q, R), CLOSE))
CLEAR = left(both(P, Q), right(either(Q, R), CLOSE))

# Each function of the interface with its arguments' names, and what it is asked with here.
INTERFACE = (
    ("statements", "signs", ["A"], (neg(P),)),
    ("statements", "names_of", ["A"], (PA,)),
    ("statements", "words_of", ["A"], (both(P, PA),)),
    ("statements", "put_in", ["body", "name"], (word("p", "0"), "a")),
    ("statements", "bound_by", ["A", "name"], (PA, "a")),
    ("statements", "renamed", ["A", "old", "new"], (PA, "a", "b")),
    ("rows", "row_of", ["lefts", "rights"], ([Q, P], [PA, R, R])),
    ("rows", "more", ["row", "added"], (ROW, [("left", P), ("right", YES)])),
    ("rows", "closes", ["row"], (ROW,)),
    ("rows", "names_in", ["row"], (ROW,)),
    ("rows", "parts", ["side", "A", "name"], ("left", when(P, Q), "")),
    ("rows", "is_own", ["side", "A"], ("right", EVERY)),
    ("rows", "marks", ["side", "A"], ("left", when(P, Q))),
    ("trees", "fits", ["row", "tree"], (ROW, TREE)),
    ("trees", "said", ["row", "tree"], (ROW, TREE)),
    ("trees", "nodes", ["tree"], (TREE,)),
    ("trees", "height", ["tree"], (TREE,)),
    ("trees", "cuts", ["tree"], (TREE,)),
    ("trees", "names_within", ["tree"], (left(EVERY, CLOSE, by="a"),)),
    ("trees", "measure", ["tree"], (TREE,)),
    ("fitting", "changed", ["tree", "old", "new"], (left(EVERY, CLOSE, by="a"), "a", "b")),
    ("fitting", "fresh", ["names"], (["n0", "a", "n1"],)),
    ("fitting", "fitted", ["row", "tree", "shunned"], (ROW, TREE, ["a", "n0"])),
    ("steps", "step", ["row", "tree"], (ROW, TREE)),
    ("steps", "clearing", ["row", "tree"], (ROW, TREE)),
    ("steps", "cleared", ["row", "tree"], (ROW, TREE)),
    ("parting", "parted", ["ones", "others", "tree"], (ROW[:2], ROW[2:], CLEAR)),
    ("worlds", "so", ["world", "A"], (WORLD, every(word("p", "0")))),
    ("worlds", "holds", ["world", "row"], (WORLD, ROW)),
    ("finding", "find_out", ["row"], (row_of([both(Q, P)], [R]),)),
    ("texts", "read_statement", ["text"], ("all X p(X)",)),
    ("texts", "read_row", ["text"], ("q, p => p",)),
    ("texts", "read_proof", ["text"], ("p => p; cut q; close; close",)),
    ("texts", "shown", ["A"], (EVERY,)),
    ("texts", "shown_row", ["row"], (ROW,)),
    ("texts", "shown_proof", ["row", "tree"], (ROW, TREE)),
)


def spoiled(value):
    """Changes each list and dict in the value as far as can be."""
    if isinstance(value, dict):
        for each in list(value.values()):
            spoiled(each)
        value["spoiled"] = "spoiled"
    elif isinstance(value, (list, tuple)):
        for each in value:
            spoiled(each)
        if isinstance(value, list):
            value.reverse()
            value.append("spoiled")


class Interface(unittest.TestCase):
    def test_all_is_imported_from_the_modules_named(self):
        for module, name, arguments, _ in INTERFACE:
            function = getattr(importlib.import_module(f"cutless.{module}"), name)
            parameters = inspect.signature(function).parameters
            with self.subTest(name=name):
                self.assertEqual(list(parameters), arguments)
                defaults = {key: each.default for key, each in parameters.items() if each.default is not each.empty}
                self.assertEqual(defaults, {"shunned": None} if name == "fitted" else {})

    def test_what_is_handed_in_is_unchanged(self):
        for module, name, arguments, given in INTERFACE:
            function = getattr(importlib.import_module(f"cutless.{module}"), name)
            handed = copy.deepcopy(given)
            told = function(*handed)
            self.assertEqual(handed, given, name)
            self.assertEqual(function(**dict(zip(arguments, handed))), told, name)
            self.assertEqual(handed, given, name)

    def test_what_is_given_is_the_askers_own(self):
        for module, name, _, given in INTERFACE:
            function = getattr(importlib.import_module(f"cutless.{module}"), name)
            handed = copy.deepcopy(given)
            first = function(*handed)
            kept = copy.deepcopy(first)
            # What is done with the one that was given changes neither what was
            # handed in nor what is given the next time, and the other way about.
            spoiled(first)
            self.assertEqual(handed, given, name)
            second = function(*handed)
            self.assertEqual(second, kept, name)
            third = function(*handed)
            spoiled(third)
            spoiled(handed)
            self.assertEqual(second, kept, name)
            self.assertEqual(function(*copy.deepcopy(given)), kept, name)


class Derivations(unittest.TestCase):
    """Some hundred derivations of all sorts."""

    @classmethod
    def setUpClass(cls):
        cls.given = carried_cuts()[::3] + sought_derivations(300)

    def test_there_are_some_hundred(self):
        self.assertGreater(len(self.given), 300)
        self.assertGreater(len([tree for row, tree in self.given if cuts(tree)]), 100)
        self.assertGreater(len([tree for row, tree in self.given if not cuts(tree)]), 50)

    def test_the_row_of_each_holds_in_worlds(self):
        for row, tree in self.given:
            self.assertIs(fits(row, tree), True)
            for world in worlds_for([A for side, A in row], 4):
                self.assertIs(holds(world, row), True, (world, row))

    def test_rows_without_a_derivation_fail_in_some_worlds(self):
        # Were each row to hold, the worlds would tell nothing.
        failed = 0
        for row, tree in self.given:
            for less in itertools.combinations(row, len(row) - 1):
                failed += any(not holds(world, less) for world in worlds_for([A for side, A in less], 4))
        self.assertGreater(failed, 100)

    def test_clearing(self):
        for row, tree in self.given:
            try:
                told = clearing(row, tree)
            except TooGreat:
                continue
            for before, behind in zip([tree] + told, told):
                self.assertIs(fits(row, behind), True)
                self.assertLess(measure(behind), measure(before))
            end = told[-1] if told else tree
            self.assertEqual(cuts(end), 0)
            for each in said(row, end):
                self.assertTrue(any(is_part(each, other) for other in row), (row, each))

    def test_parting(self):
        many = 0
        for row, tree in self.given[::2]:
            try:
                end = ([tree] + clearing(row, tree))[-1]
            except TooGreat:
                continue
            for ones, others in dealings(row):
                told = parted(ones, others, end)
                assert_between(self, ones, others, told)
                I = told[0]
                for world in worlds_for([A for side, A in row], 1):
                    self.assertIs(holds(world, more(ones, [("right", I)])), True)
                    self.assertIs(holds(world, more(others, [("left", I)])), True)
                many += 1
        self.assertGreater(many, 300)

    def test_texts(self):
        for row, tree in self.given:
            self.assertEqual(read_proof(shown_proof(row, tree)), (row, tree))
            self.assertEqual(read_row(shown_row(row)), row)
            for side, A in row:
                self.assertEqual(read_statement(shown(A)), A)

    def test_at_a_desk(self):
        many = 0
        for row, tree in self.given[::3]:
            desk = Desk()
            self.assertEqual(desk.say(f"keep a {shown_proof(row, tree)}"), "ok")
            try:
                told = clearing(row, tree)
            except TooGreat:
                with self.assertRaises(TooGreat):
                    desk.say("clear a")
                self.assertEqual(desk.say("show a"), shown_proof(row, tree))
                continue
            self.assertEqual(desk.say("clear a"), str(len(told)))
            end = ([tree] + told)[-1]
            self.assertEqual(desk.say("show a"), shown_proof(row, end))
            between = desk.say(f"part a {shown_row(row[:1])}")
            self.assertEqual(between, shown(parted(row[:1], row[1:], end)[0]))
            many += 1
        self.assertGreater(many, 50)


class Lemmas(unittest.TestCase):
    """A statement between that is found twice, cut, cleared and parted at a desk."""

    def assertLemma(self, first, A, second):
        desk = Desk()
        one, other = read_row(first), read_row(second)
        self.assertEqual(desk.say(f"find one {first}"), "ok")
        self.assertEqual(desk.say(f"find other {second}"), "ok")
        self.assertEqual(desk.say(f"cut both one other {A}"), "ok")
        self.assertEqual(desk.say("cuts both"), "1")
        lemma = read_statement(A)
        lefts = [B for side, B in one if side == "left"] + [B for side, B in other if side == "left" and B != lemma]
        rights = [B for side, B in one if side == "right" and B != lemma] + [B for side, B in other if side == "right"]
        row = row_of(lefts, rights)
        self.assertEqual(read_row(desk.say("row both")), row)
        steps = 0
        desk.say("cut again one other " + A)
        while desk.say("cuts again") != "0":
            before = read_proof(desk.say("show again"))[1]
            self.assertEqual(desk.say("step again"), "ok")
            behind = read_proof(desk.say("show again"))[1]
            self.assertIs(fits(row, behind), True)
            self.assertLess(measure(behind), measure(before))
            steps += 1
        self.assertEqual(desk.say("clear both"), str(steps))
        self.assertEqual(desk.say("show both"), desk.say("show again"))
        self.assertEqual(desk.say("cuts both"), "0")
        self.assertEqual(desk.say("row both"), shown_row(row))
        for many in range(len(row) + 1):
            for ones in itertools.combinations(row, many):
                self.assertParted(desk, row, ones)

    def assertParted(self, desk, row, ones):
        others = tuple(each for each in row if each not in ones)
        I = read_statement(desk.say(f"part both {shown_row(ones)}"))
        for part in (ones, others):
            words = {each for side, A in part for each in words_of(A)}
            self.assertLessEqual(set(words_of(I)), words)
        for part in (more(ones, [("right", I)]), more(others, [("left", I)])):
            for world in worlds_for([A for side, A in row], 3):
                self.assertIs(holds(world, part), True)
        # Where the parts are small enough, derivations of both are found, too.
        for part in (more(ones, [("right", I)]), more(others, [("left", I)])):
            try:
                self.assertIs(find_out(part)[0], True)
            except TooGreat:
                pass

    def test_lemmas(self):
        for first, A, second in (
            ("p, if p q => q", "q", "q => or q r"),
            ("and p q => and q p", "and q p", "and q p => q"),
            ("or p q => or q p", "or q p", "or q p, not q => p"),
            ("if p q, if q r => if p r", "if p r", "if p r, p => r"),
            ("not or p q => and not p not q", "and not p not q", "and not p not q => not q"),
            ("p(a), if p(a) p(b) => p(b)", "p(b)", "p(b), if p(b) p(c) => p(c)"),
            ("p => not not p", "not not p", "not not p => p"),
            ("if p q => or not p q", "or not p q", "or not p q, p => q"),
            ("not p => if p q", "if p q", "if p q => if p or q r"),
            ("- => or p not p", "or p not p", "or p not p, if p q, if not p q => q"),
        ):
            with self.subTest(A=A, second=second):
                self.assertLemma(first, A, second)

    def test_a_lemma_with_all(self):
        desk = Desk()
        desk.say("keep one all X and p(X) q(X) => all X p(X); "
                 "right all X p(X) by a; left all X and p(X) q(X) by a; left and p(a) q(a); close")
        desk.say("keep other all X p(X) => p(b); left all X p(X) by b; close")
        self.assertEqual(desk.say("cut both one other all X p(X)"), "ok")
        self.assertEqual(desk.say("row both"), "all A and p(A) q(A) => p(b)")
        self.assertNotEqual(desk.say("clear both"), "0")
        told = "all A and p(A) q(A) => p(b); left all A and p(A) q(A) by b; left and p(b) q(b); close"
        self.assertEqual(desk.say("show both"), told)
        self.assertEqual(desk.say("part both all X and p(X) q(X) => -"), "all A p(A)")


class FoundOut(unittest.TestCase):
    def test_a_derivation_or_words(self):
        chance = random.Random("found out")
        leaves = [YES, NO, P, Q, R, PA, word("p", "b")]

        def plain(many):
            if many == 0:
                return chance.choice(leaves)
            if chance.randrange(3) == 0:
                return neg(plain(many - 1))
            first = chance.randrange(many)
            return (chance.choice(("and", "or", "if")), plain(first), plain(many - 1 - first))

        told = [0, 0]
        for _ in range(400):
            row = row_of([plain(3), plain(1)], [plain(2), plain(2)])
            is_found, what = find_out(row)
            told[is_found] += 1
            if is_found:
                self.assertIs(fits(row, what), True)
                for world in worlds_for([A for side, A in row], 3):
                    self.assertIs(holds(world, row), True)
                continue
            things = {name: at for at, name in enumerate(names_in(row) or ["a"])}
            facts = {}
            for _, text, terms in what:
                facts.setdefault(text, []).append(tuple(things[term] for term in terms))
            world = (len(things), things, facts)
            self.assertEqual([so(world, A) for side, A in row], [side == "left" for side, A in row])
        self.assertGreater(min(told), 50)


class Refusals(unittest.TestCase):
    def test_each_refusal_stands_straight_under_the_base(self):
        desk = Desk()
        desk.say("find a p => p")
        desk.say("cut b a a p")
        seen = set()
        for row in ("step", "step c", "keep a p", "keep a p => q; close", "step a", "part b p => -",
                    "find a all X p(X) => p", "find a not not not not not not not not not p => p"):
            with self.assertRaises(CutlessError) as taken:
                desk.say(row)
            self.assertEqual(type(taken.exception).__bases__, (CutlessError,))
            seen.add(type(taken.exception).__name__)
        told = {"NoRow", "NoName", "NoText", "NoProof", "NoCut", "NotCleared", "NotPlain", "TooGreat"}
        self.assertEqual(seen, told)


if __name__ == "__main__":
    unittest.main()
