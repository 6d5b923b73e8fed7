import copy
import inspect
import itertools
import unittest

from cutless.fitting import changed, fitted, fresh
from cutless.rows import is_own, more, names_in, row_of
from cutless.trees import cuts, fits, height, names_within, nodes
from tests.samples import (
    CLOSE,
    P,
    Q,
    YES,
    both,
    carried_cuts,
    cut,
    either,
    every,
    left,
    neg,
    right,
    some,
    sought_derivations,
    word,
)

PA = word("p", "a")
PB = word("p", "b")
EVERY = every(word("p", "0"))
SOME = some(word("p", "0"))
WIDER = every(either(word("p", "0"), Q))
LOOSER = some(either(word("p", "0"), Q))


def of_all(name):
    """A derivation of EVERY => WIDER by an own name."""
    A = either(word("p", name), Q)
    return right(WIDER, left(EVERY, right(A, CLOSE), by=name), by=name)


def of_some(name):
    """A derivation of SOME => LOOSER by an own name."""
    A = either(word("p", name), Q)
    return left(SOME, right(LOOSER, right(A, CLOSE), by=name), by=name)


def own_names(tree):
    """The own names of the rules in the tree."""
    if tree == CLOSE:
        return []
    own = [tree[3]] if tree[0] == "rule" and is_own(tree[1], tree[2]) else []
    return own + [name for kid in tree[-1] for name in own_names(kid)]


def without_own(tree, depth=0):
    """The tree with its own names told by how far up they stand, so that it is the same whatever they are."""
    if tree == CLOSE:
        return tree
    kids = tree[-1]
    if tree[0] == "rule" and is_own(tree[1], tree[2]):
        told = f"own{depth}"
        kids = tuple(changed(kid, tree[3], told) for kid in kids)
        tree = tree[:3] + (told, kids)
    return tree[:-1] + (tuple(without_own(kid, depth + 1) for kid in kids),)


class Interface(unittest.TestCase):
    def test_the_arguments_are_called_as_told(self):
        told = [
            (changed, ["tree", "old", "new"]),
            (fresh, ["names"]),
            (fitted, ["row", "tree", "shunned"]),
        ]
        for function, names in told:
            with self.subTest(function=function.__name__):
                self.assertEqual(list(inspect.signature(function).parameters), names)
        self.assertIsNone(inspect.signature(fitted).parameters["shunned"].default)


class Changed(unittest.TestCase):
    def test_a_close_stays(self):
        self.assertEqual(changed(CLOSE, "a", "b"), CLOSE)

    def test_in_the_statements_of_rules(self):
        A = both(PA, word("q", "b", "a"))
        told = left(both(word("p", "c"), word("q", "b", "c")), CLOSE)
        self.assertEqual(changed(left(A, CLOSE), "a", "c"), told)

    def test_in_the_statements_of_cuts(self):
        self.assertEqual(changed(cut(neg(PA), CLOSE, CLOSE), "a", "n0"), cut(neg(word("p", "n0")), CLOSE, CLOSE))

    def test_as_a_rules_name(self):
        self.assertEqual(changed(left(EVERY, CLOSE, by="a"), "a", "b"), left(EVERY, CLOSE, by="b"))
        self.assertEqual(changed(right(EVERY, CLOSE, by="a"), "a", "b"), right(EVERY, CLOSE, by="b"))
        self.assertEqual(changed(left(EVERY, CLOSE, by="b"), "a", "c"), left(EVERY, CLOSE, by="b"))

    def test_in_all_kids(self):
        tree = cut(PB, left(either(PA, PB), CLOSE, left(EVERY, CLOSE, by="a")), right(neg(PA), cut(PA, CLOSE, CLOSE)))
        PC = word("p", "c")
        told = cut(PB, left(either(PC, PB), CLOSE, left(EVERY, CLOSE, by="c")), right(neg(PC), cut(PC, CLOSE, CLOSE)))
        self.assertEqual(changed(tree, "a", "c"), told)

    def test_the_text_without_signs_and_places_stay(self):
        tree = left(both(P, Q), left(every(word("p", "0", "a")), CLOSE, by="a"))
        told = left(both(P, Q), left(every(word("p", "0", "b")), CLOSE, by="b"))
        self.assertEqual(changed(tree, "a", "b"), told)

    def test_a_name_that_only_begins_so_stays(self):
        tree = cut(word("p", "aa", "ab", "a"), left(EVERY, CLOSE, by="ab"), left(EVERY, CLOSE, by="aa"))
        told = cut(word("p", "aa", "ab", "b"), left(EVERY, CLOSE, by="ab"), left(EVERY, CLOSE, by="aa"))
        self.assertEqual(changed(tree, "a", "b"), told)

    def test_old_and_new_the_same(self):
        for row, tree in carried_cuts()[::20]:
            for name in names_within(tree) + ["zz"]:
                self.assertEqual(changed(tree, name, name), tree)

    def test_an_old_name_that_is_not_there(self):
        for row, tree in carried_cuts()[::20]:
            self.assertEqual(changed(tree, "zz", "a"), tree)

    def test_to_a_name_that_is_there_already(self):
        tree = cut(word("p", "a", "b"), left(EVERY, CLOSE, by="a"), left(EVERY, CLOSE, by="b"))
        told = cut(word("p", "b", "b"), left(EVERY, CLOSE, by="b"), left(EVERY, CLOSE, by="b"))
        self.assertEqual(changed(tree, "a", "b"), told)
        self.assertEqual(changed(told, "b", "a"), changed(tree, "b", "a"))

    def test_there_and_back(self):
        for row, tree in carried_cuts()[::10] + sought_derivations(40):
            for name in names_within(tree):
                there = changed(tree, name, "zz")
                self.assertNotIn(name, names_within(there))
                self.assertIn("zz", names_within(there))
                self.assertEqual(changed(there, "zz", name), tree)


class Fresh(unittest.TestCase):
    def test_the_first_where_it_is_free(self):
        self.assertEqual(fresh([]), "n0")
        self.assertEqual(fresh(["a", "b"]), "n0")
        self.assertEqual(fresh(["n"]), "n0")
        self.assertEqual(fresh(["n00", "n01", "m0", "nn0"]), "n0")

    def test_later_ones_taken(self):
        self.assertEqual(fresh(["n1"]), "n0")
        self.assertEqual(fresh(["n1", "n2", "n3"]), "n0")

    def test_the_first_free_one(self):
        self.assertEqual(fresh(["n0"]), "n1")
        self.assertEqual(fresh(["n1", "a", "n0"]), "n2")
        self.assertEqual(fresh(["n0", "n2"]), "n1")
        self.assertEqual(fresh(["n3", "n0", "n1", "n1"]), "n2")
        self.assertEqual(fresh([f"n{k}" for k in range(10)]), "n10")
        self.assertEqual(fresh([f"n{k}" for k in range(120) if k != 101]), "n101")

    def test_the_list_stays(self):
        names = ["n1", "n0"]
        self.assertEqual(fresh(names), "n2")
        self.assertEqual(names, ["n1", "n0"])
        self.assertEqual(fresh(names), "n2")


class Fitted(unittest.TestCase):
    def assertFitted(self, row, tree, told, shunned=None):
        less = [sub for many in range(len(row) + 1) for sub in itertools.combinations(row, many)]
        self.assertTrue(any(fits(sub, tree) for sub in less), (row, tree))
        given = fitted(row, tree, shunned)
        self.assertEqual(given, told)
        self.assertIs(fits(row, given), True)

    def test_where_no_name_is_there_the_tree_stays(self):
        row = row_of([EVERY, PB], [WIDER])
        self.assertFitted(row, of_all("a"), of_all("a"))
        self.assertFitted(row, of_all("a"), of_all("a"), [])
        self.assertFitted(row, of_all("a"), of_all("a"), ["b", "n0"])
        self.assertFitted(row_of([SOME, PB], [LOOSER]), of_some("a"), of_some("a"), ["p", "c"])
        self.assertFitted(row_of([PA], [PA]), CLOSE, CLOSE, ["a"])

    def test_shunned_may_be_left_out(self):
        self.assertEqual(fitted(row_of([EVERY], [WIDER]), of_all("a")), of_all("a"))
        self.assertEqual(fitted(row_of([EVERY, PA], [WIDER]), of_all("a")), of_all("n0"))

    def test_a_name_of_the_row(self):
        self.assertFitted(row_of([EVERY, PA], [WIDER]), of_all("a"), of_all("n0"))
        self.assertFitted(row_of([EVERY], [WIDER, word("r", "b", "a")]), of_all("a"), of_all("n0"))
        self.assertFitted(row_of([SOME, PA], [LOOSER]), of_some("a"), of_some("n0"))
        self.assertFitted(row_of([SOME], [LOOSER, word("r", "b", "a")]), of_some("a"), of_some("n0"))

    def test_a_name_that_is_shunned(self):
        self.assertFitted(row_of([EVERY], [WIDER]), of_all("a"), of_all("n0"), ["a"])
        self.assertFitted(row_of([SOME], [LOOSER]), of_some("a"), of_some("n0"), ["b", "a"])

    def test_fresh_for_the_names_of_the_row(self):
        row = row_of([EVERY, word("q", "n0", "a")], [WIDER])
        self.assertFitted(row, of_all("a"), of_all("n1"))
        self.assertFitted(row_of([EVERY, word("q", "n1", "a")], [WIDER]), of_all("a"), of_all("n0"))

    def test_fresh_for_those_shunned(self):
        self.assertFitted(row_of([EVERY, PA], [WIDER]), of_all("a"), of_all("n1"), ["n0"])
        self.assertFitted(row_of([EVERY], [WIDER]), of_all("a"), of_all("n2"), ["n1", "a", "n0"])

    def test_fresh_for_those_of_the_rule_with_its_kids(self):
        self.assertFitted(row_of([EVERY, word("q", "n0")], [WIDER]), of_all("n0"), of_all("n1"))

        def of_rule(name):
            return right(WIDER, left(EVERY, of_all(name)[-1][0], by="n0"), by=name)

        self.assertFitted(row_of([EVERY, PA], [WIDER]), of_rule("a"), of_rule("n1"))

        def of_cut(name):
            return right(WIDER, cut(word("q", "n0"), of_kid(name), of_kid(name)), by=name)

        def of_kid(name):
            return of_all(name)[-1][0]

        self.assertFitted(row_of([EVERY, PA], [WIDER]), of_cut("a"), of_cut("n1"))

    def test_fresh_for_the_names_of_its_own_statement(self):
        A = every(either(word("p", "0"), word("q", "n0")))

        def of_name(name):
            kid = left(EVERY, right(either(word("p", name), word("q", "n0")), CLOSE), by=name)
            return right(A, kid, by=name)

        self.assertFitted(row_of([EVERY, PA], [A]), of_name("a"), of_name("n1"))

    def test_names_elsewhere_in_the_tree_do_not_count(self):
        A = both(WIDER, EVERY)
        kid = right(EVERY, left(EVERY, CLOSE, by="n0"), by="n0")
        row = row_of([EVERY, PA], [A])
        self.assertFitted(row, right(A, of_all("a"), kid), right(A, of_all("n0"), kid))
        tree = left(EVERY, right(A, of_all("a"), kid), by="n1")
        self.assertFitted(row, tree, left(EVERY, right(A, of_all("n0"), kid), by="n1"))

    def test_a_name_that_is_no_own_one_stays(self):
        row = row_of([EVERY, PA], [SOME])
        tree = left(EVERY, right(SOME, CLOSE, by="a"), by="a")
        self.assertFitted(row, tree, tree)
        self.assertFitted(row, tree, tree, ["a"])
        self.assertFitted(row, tree, tree, ["a", "b", "n0"])

    def test_in_either_kid_of_a_rule_and_of_a_cut(self):
        row = row_of([EVERY, either(P, Q), PA], [WIDER])
        for first, second, told in (("a", "b", ("n0", "b")), ("b", "a", ("b", "n0")), ("a", "a", ("n0", "n0"))):
            kids = of_all(first), of_all(second)
            kids_told = [of_all(name) for name in told]
            self.assertFitted(row, left(either(P, Q), *kids), left(either(P, Q), *kids_told))
            self.assertFitted(row, cut(P, *kids), cut(P, *kids_told))
            self.assertFitted(row, cut(PB, of_all("a"), of_all("a")), cut(PB, of_all("n0"), of_all("n0")))

    def test_names_that_are_added_beneath_count_for_the_fresh_name(self):
        row = row_of([EVERY, PA], [WIDER])
        A = word("q", "n0")
        self.assertFitted(row, cut(A, of_all("a"), of_all("a")), cut(A, of_all("n1"), of_all("n1")))
        self.assertFitted(row, left(EVERY, of_all("a"), by="n0"), left(EVERY, of_all("n1"), by="n0"))
        B = some(word("q", "0"))
        self.assertFitted(more(row, row_of([B], [])), left(B, of_all("a"), by="n0"), left(B, of_all("n1"), by="n0"))
        self.assertFitted(more(row, row_of([B], [])), left(B, of_all("a"), by="n1"), left(B, of_all("n0"), by="n1"))

    def two(self, first, second):
        """A derivation of all all p => all all or p q by two own names, one above the other."""
        A = every(every(either(word("p", "0", "1"), Q)))
        B = every(every(word("p", "0", "1")))
        inner = every(word("p", "0", first))
        kid = left(inner, right(either(word("p", second, first), Q), CLOSE), by=second)
        kid = right(every(either(word("p", "0", first), Q)), left(B, kid, by=first), by=second)
        return row_of([B], [A]), right(A, kid, by=first)

    def test_several_one_above_the_other(self):
        row, tree = self.two("a", "b")
        self.assertIs(fits(row, tree), True)
        self.assertFitted(more(row, row_of([PA, PB], [])), tree, self.two("n0", "n1")[1])
        self.assertFitted(more(row, row_of([PA], [])), tree, self.two("n0", "b")[1])
        self.assertFitted(more(row, row_of([PB], [])), tree, self.two("a", "n0")[1])
        self.assertFitted(row, tree, self.two("n0", "n1")[1], ["a", "b"])
        self.assertFitted(row, tree, self.two("n1", "n2")[1], ["n0", "b", "a"])
        self.assertFitted(more(row, row_of([PA], [])), tree, self.two("n0", "n1")[1], ["b"])

    def test_one_of_them_has_the_fresh_name_above(self):
        row, tree = self.two("a", "n0")
        self.assertFitted(more(row, row_of([PA], [])), tree, self.two("n1", "n0")[1])
        self.assertFitted(more(row, row_of([PA, word("p", "n0")], [])), tree, self.two("n1", "n2")[1])

    def test_kids_are_changed_ahead_of_going_on(self):
        # The name comes again as the own name of a rule above, where it is no
        # name of the row, since there is no place in the body.
        A = every(P)
        tree = right(A, right(A, CLOSE, by="a"), by="a")
        row = row_of([P, PA], [A])
        self.assertFitted(row, tree, right(A, right(A, CLOSE, by="n0"), by="n0"))
        tree = right(A, left(EVERY, right(A, CLOSE, by="b"), by="a"), by="a")
        row = row_of([P, PA, EVERY], [A])
        self.assertFitted(row, tree, right(A, left(EVERY, right(A, CLOSE, by="b"), by="n0"), by="n0"))
        tree = right(A, left(SOME, right(A, CLOSE, by="b"), by="a"), by="a")
        row = row_of([P, PA, SOME], [A])
        self.assertFitted(row, tree, right(A, left(SOME, right(A, CLOSE, by="b"), by="n0"), by="n0"))

    def test_above_a_rule_that_stays(self):
        A = some(word("q", "0"))
        row = row_of([EVERY, A, PA], [WIDER])
        self.assertFitted(row, left(A, of_all("a"), by="b"), left(A, of_all("n0"), by="b"))
        self.assertFitted(row, left(A, of_all("b"), by="n0"), left(A, of_all("b"), by="n0"))

    def test_to_its_own_row_it_stays(self):
        for row, tree in carried_cuts() + sought_derivations(200):
            self.assertEqual(fitted(row, tree), tree)
            self.assertEqual(fitted(row, tree, []), tree)

    def test_it_fits_the_new_row_and_differs_in_own_names_alone(self):
        for row, tree in carried_cuts()[::2] + sought_derivations(200):
            there = names_in(row) + names_within(tree)
            for added in ([word("s", name) for name in there[:3]], [neg(word("t", *there[-3:]))], [both(YES, PB)]):
                new = more(row, [("left", A) for A in added])
                given = fitted(new, tree)
                self.assertIs(fits(new, given), True, (new, tree))
                self.assertEqual(without_own(given), without_own(tree))
                self.assertEqual(fitted(new, given), given)

    def test_none_of_its_own_names_is_shunned(self):
        for row, tree in carried_cuts()[::2] + sought_derivations(200):
            for shunned in (own_names(tree)[:1], own_names(tree), names_within(tree) + ["n0", "n1"]):
                given = fitted(row, tree, shunned)
                self.assertIs(fits(row, given), True, (row, tree))
                self.assertEqual([name for name in own_names(given) if name in shunned], [])
                self.assertEqual(without_own(given), without_own(tree))
                self.assertEqual((nodes(given), height(given), cuts(given)), (nodes(tree), height(tree), cuts(tree)))


class Unchanged(unittest.TestCase):
    def test_what_is_handed_in(self):
        for row, tree in carried_cuts()[::10] + sought_derivations(40):
            shunned = own_names(tree) + ["n1", "n0"]
            kept = copy.deepcopy((row, tree, shunned))
            first = fitted(row, tree, shunned), changed(tree, "a", "b")
            self.assertEqual((row, tree, shunned), kept)
            self.assertEqual((fitted(row, tree, shunned), changed(tree, "a", "b")), first)

    def test_the_list_may_be_changed_behind_the_call(self):
        row = row_of([EVERY], [WIDER])
        shunned = ["a"]
        told = fitted(row, of_all("a"), shunned)
        shunned.append("n0")
        self.assertEqual(told, of_all("n0"))
        self.assertEqual(fitted(row, of_all("a"), shunned), of_all("n1"))
        self.assertEqual(fitted(row, of_all("a")), of_all("a"))


if __name__ == "__main__":
    unittest.main()
