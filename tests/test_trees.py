import copy
import inspect
import random
import unittest

from cutless.rows import closes, more, row_of
from cutless.statements import put_in, renamed
from cutless.trees import cuts, fits, height, measure, names_within, nodes, said
from tests.samples import (
    BASE,
    CLOSE,
    KINDS,
    NO,
    P,
    Q,
    R,
    YES,
    based,
    both,
    bush,
    carried_cuts,
    cut,
    either,
    every,
    left,
    neg,
    nested,
    right,
    some,
    sought_derivations,
    when,
    word,
)

PA = word("p", "a")
PB = word("p", "b")
EVERY = every(word("p", "0"))
SOME = some(word("p", "0"))


def branches_of(side, A, name):
    """The branches as the document's table has them, told once more."""
    kind = A[0]
    if kind in ("yes", "no", "word"):
        return []
    if kind in ("all", "some"):
        return [[(side, put_in(A[1], name))]]
    if kind == "not":
        return [[("right" if side == "left" else "left", A[1])]]
    B, C = A[1:]
    return {
        ("left", "and"): [[("left", B), ("left", C)]],
        ("right", "and"): [[("right", B)], [("right", C)]],
        ("left", "or"): [[("left", B)], [("left", C)]],
        ("right", "or"): [[("right", B), ("right", C)]],
        ("left", "if"): [[("right", B)], [("left", C)]],
        ("right", "if"): [[("left", B), ("right", C)]],
    }[side, kind]


def names_there(signed):
    return {term for side, A in signed for term in terms_in(A) if not term[0].isdigit()}


def terms_in(A):
    if A[0] == "word":
        return list(A[2])
    return [term for B in A[1:] for term in terms_in(B)]


def derives(signed, tree):
    """Whether the tree fits the row of a set of signed statements, told once more."""
    if tree[0] == "close":
        lefts = {A for side, A in signed if side == "left"}
        rights = {A for side, A in signed if side == "right"}
        return NO in lefts or YES in rights or bool(lefts & rights)
    if tree[0] == "cut":
        A, kids = tree[1:]
        return derives(signed | {("right", A)}, kids[0]) and derives(signed | {("left", A)}, kids[1])
    side, A, name, kids = tree[1:]
    if (side, A) not in signed or (A[0] in ("all", "some")) != bool(name):
        return False
    if (side, A[0]) in (("right", "all"), ("left", "some")) and name in names_there(signed):
        return False
    branches = branches_of(side, A, name)
    if branches == [] or len(branches) != len(kids):
        return False
    return all(derives(signed | set(branch), kid) for branch, kid in zip(branches, kids))


def rows_over(signed, tree):
    """All rows of a derivation, as sets."""
    if tree[0] == "close":
        return [signed]
    if tree[0] == "cut":
        branches = [[("right", tree[1])], [("left", tree[1])]]
    else:
        branches = branches_of(*tree[1:4])
    return [signed] + [row for branch, kid in zip(branches, tree[-1]) for row in rows_over(signed | set(branch), kid)]


def spoiled(chance, tree):
    """The tree with one thing in it changed somewhere, so that it may no longer be a derivation."""
    if tree[0] != "close" and chance.randrange(3) and tree[-1]:
        kids = list(tree[-1])
        at = chance.randrange(len(kids))
        kids[at] = spoiled(chance, kids[at])
        return tree[:-1] + (tuple(kids),)
    if tree[0] == "close":
        return chance.choice([left(both(P, P), CLOSE), cut(P, CLOSE, CLOSE), left(P), right(every(P), CLOSE, by="a")])
    if tree[0] == "cut":
        A, (first, second) = tree[1:]
        return chance.choice([cut(A, second, first), cut(neg(A), first, second), first, second, CLOSE])
    side, A, name, kids = tree[1:]
    name = chance.choice([name, "", "a", "b", "n0"])
    side = chance.choice([side, side, "left", "right"])
    A = renamed(A, "a", chance.choice(["a", "b"]))
    kids = chance.choice([kids, kids, kids[::-1], kids + (CLOSE,), kids[:-1], kids + kids])
    return ("rule", side, A, name, kids)


class Interface(unittest.TestCase):
    def test_the_arguments_are_called_as_told(self):
        told = [
            (fits, ["row", "tree"]),
            (said, ["row", "tree"]),
            (nodes, ["tree"]),
            (height, ["tree"]),
            (cuts, ["tree"]),
            (names_within, ["tree"]),
            (measure, ["tree"]),
        ]
        for function, names in told:
            with self.subTest(function=function.__name__):
                self.assertEqual(list(inspect.signature(function).parameters), names)


class Fits(unittest.TestCase):
    def assertFits(self, row, tree):
        self.assertIs(fits(row, tree), True, (row, tree))

    def assertNoFit(self, row, tree):
        self.assertIs(fits(row, tree), False, (row, tree))

    def test_a_close_at_rows_that_close(self):
        for lefts, rights in [([P], [P]), ([], [YES]), ([NO], []), ([NO, P], [Q, YES]), ([EVERY], [EVERY, Q])]:
            self.assertFits(row_of(lefts, rights), CLOSE)

    def test_a_close_at_rows_that_do_not_close(self):
        for lefts, rights in [([P], [Q]), ([YES], []), ([], [NO]), ([], []), ([P, Q], []), ([], [P]), ([PA], [PB])]:
            self.assertNoFit(row_of(lefts, rights), CLOSE)

    def test_a_rule_of_each_kind_and_side(self):
        told = [
            (row_of([neg(P), P], []), left(neg(P), CLOSE)),
            (row_of([], [neg(P), P]), right(neg(P), CLOSE)),
            (row_of([both(P, Q)], [Q]), left(both(P, Q), CLOSE)),
            (row_of([both(P, Q)], [P]), left(both(P, Q), CLOSE)),
            (row_of([P, Q], [both(P, Q)]), right(both(P, Q), CLOSE, CLOSE)),
            (row_of([either(P, Q)], [P, Q]), left(either(P, Q), CLOSE, CLOSE)),
            (row_of([P], [either(P, Q)]), right(either(P, Q), CLOSE)),
            (row_of([Q], [either(P, Q)]), right(either(P, Q), CLOSE)),
            (row_of([when(P, Q), P], [Q]), left(when(P, Q), CLOSE, CLOSE)),
            (row_of([Q], [when(P, Q)]), right(when(P, Q), CLOSE)),
            (row_of([], [when(P, P)]), right(when(P, P), CLOSE)),
            (row_of([EVERY], [PA]), left(EVERY, CLOSE, by="a")),
            (row_of([], [every(YES)]), right(every(YES), CLOSE, by="a")),
            (row_of([some(NO)], []), left(some(NO), CLOSE, by="a")),
            (row_of([PA], [SOME]), right(SOME, CLOSE, by="a")),
        ]
        for row, tree in told:
            with self.subTest(tree=tree):
                self.assertFits(row, tree)
                self.assertFits(more(row, row_of([word("s", "n7")], [word("t")])), tree)

    def test_a_rule_whose_signed_statement_is_not_in_the_row(self):
        for kind, A in KINDS.items():
            name = "c" if kind in ("all", "some") else ""
            for side, other in (("left", "right"), ("right", "left")):
                kids = (CLOSE,) * len(branches_of(side, A, name))
                tree = ("rule", side, A, name, kids)
                with self.subTest(kind=kind, side=side):
                    self.assertNoFit(row_of([NO], [YES]), tree)
                    self.assertNoFit(more(row_of([NO], [YES]), [(other, A)]), tree)
                    there = more(row_of([NO], [YES]), [(side, A)])
                    self.assertIs(fits(there, tree), kind not in ("word", "yes", "no"))

    def test_as_many_kids_as_branches(self):
        for kind, A in KINDS.items():
            name = "c" if kind in ("all", "some") else ""
            for side in ("left", "right"):
                row = more(row_of([NO], [YES]), [(side, A)])
                many = len(branches_of(side, A, name))
                for given in range(4):
                    with self.subTest(kind=kind, side=side, given=given):
                        tree = ("rule", side, A, name, (CLOSE,) * given)
                        self.assertIs(fits(row, tree), given == many and many > 0)

    def test_a_word_yes_and_no_have_no_rule(self):
        for A in (P, PA, YES, NO):
            for side in ("left", "right"):
                row = more(row_of([P, NO], [P, YES]), [(side, A)])
                self.assertNoFit(row, ("rule", side, A, "", ()))
                self.assertNoFit(row, ("rule", side, A, "", (CLOSE,)))
                self.assertNoFit(row, ("rule", side, A, "a", (CLOSE,)))

    def test_a_name_for_all_and_some_alone(self):
        for kind, A in KINDS.items():
            for side in ("left", "right"):
                row = more(row_of([NO], [YES]), [(side, A)])
                kids = (CLOSE,) * len(branches_of(side, A, "c"))
                with self.subTest(kind=kind, side=side):
                    bound = kind in ("all", "some")
                    self.assertIs(fits(row, ("rule", side, A, "c", kids)), bound)
                    self.assertIs(fits(row, ("rule", side, A, "", kids)), kids != () and not bound)

    def test_an_own_name_is_no_name_of_the_row(self):
        for side, A in (("right", EVERY), ("left", SOME), ("right", every(P)), ("left", some(P))):
            row = more(row_of([NO, PA], [word("q", "b", "n0")]), [(side, A)])
            for name in ("a", "b", "n0"):
                self.assertNoFit(row, ("rule", side, A, name, (CLOSE,)))
            for name in ("c", "p", "q", "n1", "abcdefgh"):
                self.assertFits(row, ("rule", side, A, name, (CLOSE,)))

    def test_an_own_name_is_no_name_of_the_statement_itself(self):
        A = every(word("p", "0", "a"))
        self.assertNoFit(row_of([NO], [A]), right(A, CLOSE, by="a"))
        self.assertFits(row_of([NO], [A]), right(A, CLOSE, by="b"))

    def test_another_name_may_be_one_of_the_row_or_none(self):
        for side, A in (("left", EVERY), ("right", SOME)):
            row = more(row_of([NO, PA], [PB]), [(side, A)])
            for name in ("a", "b", "c", "n0"):
                self.assertFits(row, ("rule", side, A, name, (CLOSE,)))

    def test_an_own_name_is_none_of_what_was_added_beneath(self):
        row = row_of([SOME], [EVERY, YES])
        self.assertNoFit(row, left(SOME, right(EVERY, CLOSE, by="a"), by="a"))
        self.assertFits(row, left(SOME, right(EVERY, CLOSE, by="b"), by="a"))
        self.assertNoFit(row, cut(PA, right(EVERY, CLOSE, by="a"), CLOSE))
        self.assertNoFit(row, cut(PA, CLOSE, right(EVERY, CLOSE, by="a")))
        self.assertFits(row, cut(PA, CLOSE, right(EVERY, CLOSE, by="b")))

    def test_an_own_name_may_come_again_where_it_is_no_name_of_the_row(self):
        row = row_of([], [every(P), both(EVERY, EVERY), YES])
        self.assertFits(row, right(every(P), right(every(P), CLOSE, by="a"), by="a"))
        twice = right(EVERY, CLOSE, by="a")
        self.assertFits(row, right(both(EVERY, EVERY), twice, twice))
        self.assertNoFit(row, right(both(EVERY, EVERY), right(EVERY, twice, by="a"), twice))

    def test_a_kid_fits_the_row_with_its_own_branch(self):
        row = row_of([when(P, Q), P, neg(Q)], [])
        self.assertFits(row, left(when(P, Q), CLOSE, left(neg(Q), CLOSE)))
        self.assertNoFit(row, left(when(P, Q), left(neg(Q), CLOSE), CLOSE))
        self.assertNoFit(row, left(when(P, Q), CLOSE, CLOSE))
        self.assertNoFit(row_of([P], [both(P, Q)]), right(both(P, Q), CLOSE, CLOSE))
        self.assertNoFit(row_of([Q], [both(P, Q)]), right(both(P, Q), CLOSE, CLOSE))
        self.assertNoFit(row_of([EVERY], [PA]), left(EVERY, CLOSE, by="b"))

    def test_what_the_row_has_stays_there(self):
        row = row_of([EVERY], [both(PA, PB)])
        tree = right(both(PA, PB), left(EVERY, CLOSE, by="a"), left(EVERY, CLOSE, by="b"))
        self.assertFits(row, tree)
        self.assertFits(row, left(EVERY, left(EVERY, right(both(PA, PB), CLOSE, CLOSE), by="b"), by="a"))

    def test_a_branch_is_added_to_its_own_kid_alone(self):
        row = row_of([either(P, Q)], [both(P, Q)])
        self.assertNoFit(row, left(either(P, Q), right(both(P, Q), CLOSE, CLOSE), right(both(P, Q), CLOSE, CLOSE)))

    def test_a_cut_has_the_statement_right_first_and_left_second(self):
        self.assertFits(row_of([P], [either(P, Q)]), cut(P, CLOSE, right(either(P, Q), CLOSE)))
        self.assertNoFit(row_of([P], [either(P, Q)]), cut(P, right(either(P, Q), CLOSE), CLOSE))
        self.assertFits(row_of([both(P, Q)], [P]), cut(P, left(both(P, Q), CLOSE), CLOSE))
        self.assertNoFit(row_of([both(P, Q)], [P]), cut(P, CLOSE, left(both(P, Q), CLOSE)))
        self.assertNoFit(row_of([P], [Q]), cut(P, CLOSE, CLOSE))
        self.assertNoFit(row_of([P], [Q]), cut(Q, CLOSE, CLOSE))
        self.assertFits(row_of([P], [P]), cut(Q, CLOSE, CLOSE))
        self.assertFits(row_of([], [YES]), cut(word("r", "n3"), CLOSE, CLOSE))

    def test_a_rule_of_what_a_cut_has_added(self):
        A = both(P, Q)
        row = row_of([P, Q], [either(P, R)])
        tree = cut(A, right(A, CLOSE, CLOSE), left(A, right(either(P, R), CLOSE)))
        self.assertFits(row, tree)
        self.assertNoFit(row, cut(A, left(A, CLOSE), left(A, right(either(P, R), CLOSE))))

    def test_what_is_added_already_there_is_there_once(self):
        self.assertFits(BASE, based(5))
        row = row_of([P, both(P, P)], [P])
        self.assertFits(row, left(both(P, P), cut(P, CLOSE, CLOSE)))
        self.assertFits(row_of([P], [Q, P]), cut(Q, cut(Q, CLOSE, CLOSE), cut(Q, CLOSE, CLOSE)))

    def test_something_wrong_far_up(self):
        good = nested(20, lambda tree: left(both(P, Q), tree), based())
        self.assertFits(BASE, good)
        self.assertNoFit(BASE, nested(20, lambda tree: left(both(P, Q), tree), CLOSE))
        self.assertNoFit(BASE, nested(20, lambda tree: left(either(P, Q), based(), tree), left(Q)))
        self.assertFits(BASE, nested(20, lambda tree: left(either(P, Q), based(), tree), based()))

    def test_somewhat_beyond_the_bounds(self):
        self.assertFits(BASE, based(60))
        self.assertFits(BASE, bush(900))
        row = row_of([word("p", f"n{k}") for k in range(50)], [word("p", "n31")])
        self.assertFits(row, CLOSE)

    def test_the_same_as_told_once_more(self):
        chance = random.Random("spoiled")
        seen = {True: 0, False: 0}
        for row, tree in sought_derivations(200) + carried_cuts()[::4]:
            self.assertFits(row, tree)
            self.assertTrue(derives(set(row), tree))
            for _ in range(6):
                other = spoiled(chance, tree)
                told = derives(set(row), other)
                self.assertIs(fits(row, other), told, (row, other))
                seen[told] += 1
            for at in range(len(row)):
                less = row[:at] + row[at + 1 :]
                self.assertIs(fits(less, tree), derives(set(less), tree), (less, tree))
        self.assertGreater(min(seen.values()), 100)


class Said(unittest.TestCase):
    def test_of_a_close_alone(self):
        for row in (row_of([P], [P]), row_of([NO, Q], [])):
            self.assertEqual(said(row, CLOSE), row)

    def test_of_rules(self):
        A = both(P, neg(Q))
        row = row_of([A], [P])
        self.assertEqual(said(row, left(A, CLOSE)), row_of([A, P, neg(Q)], [P]))
        row = row_of([A, Q], [])
        self.assertEqual(said(row, left(A, left(neg(Q), CLOSE))), row_of([A, P, Q, neg(Q)], [Q]))

    def test_of_two_kids_as_one_row(self):
        A = when(P, Q)
        self.assertEqual(said(row_of([A, P], [Q]), left(A, CLOSE, CLOSE)), row_of([A, P, Q], [P, Q]))

    def test_of_cuts(self):
        row = row_of([P], [either(P, Q)])
        tree = cut(P, CLOSE, right(either(P, Q), CLOSE))
        self.assertEqual(said(row, tree), row_of([P], [P, Q, either(P, Q)]))
        self.assertEqual(said(row_of([NO], []), cut(PA, CLOSE, CLOSE)), row_of([NO, PA], [PA]))

    def test_of_names(self):
        row = row_of([EVERY], [PA])
        self.assertEqual(said(row, left(EVERY, CLOSE, by="a")), row_of([EVERY, PA], [PA]))
        tree = left(EVERY, left(EVERY, CLOSE, by="a"), by="b")
        self.assertEqual(said(row, tree), row_of([EVERY, PA, PB], [PA]))

    def test_a_row_sorted_each_once(self):
        told = said(BASE, bush(40))
        self.assertIsInstance(told, tuple)
        self.assertEqual(list(told), sorted(set(told)))
        self.assertEqual(told, more(BASE, row_of([P, Q], [P, R])))

    def test_the_same_as_told_once_more(self):
        for row, tree in sought_derivations(200) + carried_cuts()[::3]:
            together = set().union(*rows_over(set(row), tree))
            self.assertEqual(said(row, tree), tuple(sorted(together)))


class Sizes(unittest.TestCase):
    def assertSizes(self, tree, told):
        given = (nodes(tree), height(tree), cuts(tree))
        self.assertEqual(given, told)
        for number in given:
            self.assertIs(type(number), int)

    def test_a_close(self):
        self.assertSizes(CLOSE, (1, 1, 0))

    def test_rules_of_one_and_two_kids(self):
        self.assertSizes(left(neg(P), CLOSE), (2, 2, 0))
        self.assertSizes(right(both(P, Q), CLOSE, CLOSE), (3, 2, 0))
        self.assertSizes(right(both(P, Q), left(neg(P), CLOSE), CLOSE), (4, 3, 0))
        self.assertSizes(right(both(P, Q), CLOSE, left(neg(P), CLOSE)), (4, 3, 0))
        self.assertSizes(left(EVERY, left(EVERY, CLOSE, by="b"), by="a"), (3, 3, 0))

    def test_cuts_within_cuts(self):
        one = cut(P, CLOSE, CLOSE)
        self.assertSizes(one, (3, 2, 1))
        self.assertSizes(cut(P, one, CLOSE), (5, 3, 2))
        self.assertSizes(cut(P, CLOSE, one), (5, 3, 2))
        self.assertSizes(cut(P, one, cut(Q, left(neg(P), one), CLOSE)), (10, 5, 4))
        self.assertSizes(left(neg(P), one), (4, 3, 1))
        self.assertSizes(right(both(P, Q), one, one), (7, 3, 2))

    def test_great_trees(self):
        self.assertSizes(based(57), (60, 60, 0))
        self.assertEqual(nodes(bush(601)), 601)
        self.assertSizes(nested(45, lambda tree: cut(P, CLOSE, tree), CLOSE), (91, 46, 45))
        self.assertSizes(nested(9, lambda tree: cut(P, tree, tree), CLOSE), (1023, 10, 511))

    def test_whether_a_tree_fits_is_not_asked(self):
        self.assertSizes(left(YES, CLOSE, CLOSE, CLOSE), (4, 2, 0))


class NamesWithin(unittest.TestCase):
    def test_a_close_has_none(self):
        self.assertEqual(names_within(CLOSE), [])

    def test_the_text_without_signs_is_none(self):
        self.assertEqual(names_within(left(both(P, Q), CLOSE)), [])
        self.assertEqual(names_within(left(neg(PA), CLOSE)), ["a"])

    def test_of_statements_in_rules_and_cuts(self):
        self.assertEqual(names_within(cut(word("p", "b", "a"), CLOSE, CLOSE)), ["a", "b"])
        self.assertEqual(names_within(right(when(PB, word("q", "n0", "a")), CLOSE)), ["a", "b", "n0"])

    def test_of_the_rules_themselves(self):
        self.assertEqual(names_within(left(EVERY, CLOSE, by="n3")), ["n3"])
        self.assertEqual(names_within(right(some(word("p", "0", "z")), CLOSE, by="a")), ["a", "z"])

    def test_places_are_none(self):
        self.assertEqual(names_within(left(every(every(word("p", "0", "1"))), CLOSE, by="a")), ["a"])

    def test_sorted_each_once_of_all_nodes(self):
        tree = cut(PB, left(EVERY, left(EVERY, CLOSE, by="d"), by="n10"), right(EVERY, cut(PA, CLOSE, CLOSE), by="n9"))
        self.assertEqual(names_within(tree), ["a", "b", "d", "n10", "n9"])
        self.assertEqual(names_within(cut(PA, tree, tree)), ["a", "b", "d", "n10", "n9"])
        self.assertEqual(names_within(left(either(P, Q), CLOSE, left(EVERY, CLOSE, by="a"))), ["a"])

    def test_a_new_list_each_time(self):
        tree = cut(PA, CLOSE, CLOSE)
        first = names_within(tree)
        first.append("z")
        self.assertEqual(names_within(tree), ["a"])
        second = names_within(tree)
        self.assertIsNot(second, names_within(tree))
        self.assertEqual(first, ["a", "z"])


class Measure(unittest.TestCase):
    def test_without_cuts(self):
        self.assertEqual(measure(CLOSE), [])
        self.assertEqual(measure(bush(30)), [])

    def test_one_cut(self):
        self.assertEqual(measure(cut(P, CLOSE, CLOSE)), [(0, 0, 2)])
        self.assertEqual(measure(cut(both(P, neg(Q)), CLOSE, based())), [(2, 0, 4)])
        self.assertEqual(measure(cut(every(some(word("p", "0", "1"))), based(4), based(1))), [(2, 0, 11)])
        self.assertEqual(measure(cut(YES, left(either(P, Q), CLOSE, based(2)), CLOSE)), [(0, 0, 7)])

    def test_a_cut_beneath_rules(self):
        tree = left(both(P, Q), left(either(P, Q), CLOSE, cut(neg(P), CLOSE, CLOSE)))
        self.assertEqual(measure(tree), [(1, 0, 2)])

    def test_cuts_within_cuts(self):
        inner = cut(both(P, Q), CLOSE, CLOSE)
        self.assertEqual(measure(cut(P, inner, CLOSE)), [(1, 0, 2), (0, 1, 0)])
        self.assertEqual(measure(cut(P, CLOSE, inner)), [(1, 0, 2), (0, 1, 0)])
        self.assertEqual(measure(cut(neg(neg(P)), left(neg(P), inner), CLOSE)), [(2, 1, 0), (1, 0, 2)])
        tree = cut(P, cut(Q, cut(R, CLOSE, CLOSE), CLOSE), cut(neg(R), CLOSE, CLOSE))
        self.assertEqual(measure(tree), [(1, 0, 2), (0, 1, 0), (0, 1, 0), (0, 0, 2)])

    def test_sorted_falling_each_as_often_as_it_is_there(self):
        ones = [cut(P, CLOSE, CLOSE), cut(neg(P), CLOSE, CLOSE), cut(P, CLOSE, CLOSE), cut(P, based(), CLOSE)]
        tree = left(either(P, Q), left(either(P, Q), *ones[:2]), left(either(P, Q), *ones[2:]))
        self.assertEqual(measure(tree), [(1, 0, 2), (0, 0, 4), (0, 0, 2), (0, 0, 2)])

    def test_kinds(self):
        told = measure(cut(P, cut(Q, CLOSE, CLOSE), CLOSE))
        self.assertIsInstance(told, list)
        for each in told:
            self.assertIs(type(each), tuple)
            self.assertEqual([type(number) for number in each], [int, int, int])

    def test_a_new_list_each_time(self):
        tree = cut(P, CLOSE, CLOSE)
        first = measure(tree)
        first.append("z")
        self.assertEqual(measure(tree), [(0, 0, 2)])
        self.assertEqual(first, [(0, 0, 2), "z"])


class Unchanged(unittest.TestCase):
    def test_what_is_handed_in(self):
        for row, tree in sought_derivations(20) + carried_cuts()[::20]:
            kept = copy.deepcopy((row, tree))
            first = [fits(row, tree), said(row, tree)] + [
                function(tree) for function in (nodes, height, cuts, names_within, measure)
            ]
            self.assertEqual((row, tree), kept)
            second = [fits(row, tree), said(row, tree)] + [
                function(tree) for function in (nodes, height, cuts, names_within, measure)
            ]
            self.assertEqual(first, second)
            self.assertEqual(closes(row), fits(row, CLOSE))


if __name__ == "__main__":
    unittest.main()
