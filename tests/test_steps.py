import copy
import inspect
import unittest

from cutless.errors import NoCut, NoProof, TooGreat
from cutless.rows import more, row_of
from cutless.steps import cleared, clearing, step
from cutless.trees import cuts, fits, height, measure, nodes, said
from tests.samples import (
    BASE,
    CLOSE,
    NO,
    P,
    Q,
    R,
    YES,
    based,
    both,
    bush,
    carried_cuts,
    cut,
    either,
    every,
    grown,
    is_part,
    left,
    many_cuts,
    neg,
    raised,
    right,
    some,
    sought_derivations,
    when,
    word,
)

PA = word("p", "a")
PB = word("p", "b")
EVERY = every(word("p", "0"))
SOME = some(word("p", "0"))
WITNESS = some(word("q", "0"))


class Checked(unittest.TestCase):
    def assertStep(self, row, tree, told):
        """The step is the one that is told, of the same row and of less measure."""
        self.assertIs(fits(row, tree), True)
        given = step(row, tree)
        self.assertEqual(given, told)
        self.assertIs(fits(row, given), True)
        self.assertLess(measure(given), measure(tree))


class Interface(unittest.TestCase):
    def test_the_arguments_are_called_as_told(self):
        for function in (step, clearing, cleared):
            self.assertEqual(list(inspect.signature(function).parameters), ["row", "tree"])


class GivesWay(Checked):
    def test_a_row_that_closes(self):
        self.assertStep(row_of([P], [P]), cut(Q, CLOSE, CLOSE), CLOSE)
        self.assertStep(row_of([], [YES]), cut(neg(Q), right(neg(Q), CLOSE), CLOSE), CLOSE)
        self.assertStep(row_of([NO], []), cut(neg(Q), CLOSE, left(neg(Q), CLOSE)), CLOSE)

    def test_a_row_that_closes_comes_ahead_of_kids_that_fit(self):
        row = more(BASE, [("left", NO)])
        self.assertStep(row, cut(Q, based(), CLOSE), CLOSE)
        self.assertStep(row, cut(Q, CLOSE, based()), CLOSE)
        self.assertStep(row, cut(neg(R), right(neg(R), based()), left(neg(R), based())), CLOSE)

    def test_a_first_kid_that_fits(self):
        A = neg(R)
        self.assertStep(BASE, cut(A, based(2), left(A, based())), based(2))
        self.assertStep(BASE, cut(Q, based(1), based(3)), based(1))
        self.assertStep(BASE, cut(P, based(3), based(1)), based(3))

    def test_a_second_kid_that_fits(self):
        A = neg(R)
        self.assertStep(BASE, cut(A, right(A, based()), based(2)), based(2))
        kid = right(both(P, P), CLOSE, CLOSE)
        self.assertStep(row_of([P], [both(P, P)]), cut(P, CLOSE, kid), kid)

    def test_a_close_as_a_kid(self):
        self.assertStep(BASE, cut(YES, CLOSE, based(2)), based(2))
        self.assertStep(BASE, cut(NO, based(2), CLOSE), based(2))
        A = either(P, R)
        self.assertStep(BASE, cut(A, right(A, based()), CLOSE), right(A, based()))
        A = both(P, Q)
        self.assertStep(BASE, cut(A, CLOSE, left(A, based())), left(A, based()))

    def test_a_rule_of_another_statement_in_the_first_kid(self):
        row = row_of([both(P, Q)], [either(Q, R)])
        first, second = left(both(P, Q), CLOSE), right(either(Q, R), CLOSE)
        self.assertStep(row, cut(Q, first, second), left(both(P, Q), cut(Q, CLOSE, second)))
        self.assertStep(row, left(both(P, Q), cut(Q, CLOSE, second)), left(both(P, Q), second))

    def test_a_rule_of_two_kids_in_the_first_kid(self):
        A = neg(R)
        kids = right(A, based(1)), right(A, based(2))
        second = left(A, based(3))
        told = left(either(P, Q), cut(A, kids[0], second), cut(A, kids[1], second))
        self.assertStep(BASE, cut(A, left(either(P, Q), *kids), second), told)

    def test_the_first_kid_comes_ahead_of_the_second(self):
        A = neg(R)
        first = left(both(P, Q), right(A, based(1)))
        second = right(either(P, R), left(A, based(2)))
        self.assertStep(BASE, cut(A, first, second), left(both(P, Q), cut(A, right(A, based(1)), second)))

    def test_a_rule_of_the_same_statement_on_the_other_side(self):
        # A is in the row then, so one of the kids fits it by itself.
        A = neg(R)
        row = more(BASE, [("left", A)])
        first, second = left(A, right(A, based())), left(A, left(A, based()))
        self.assertStep(row, cut(A, first, second), second)
        row = more(BASE, [("right", A)])
        first, second = right(A, right(A, based())), right(A, left(A, based()))
        self.assertStep(row, cut(A, first, second), first)

    def test_a_rule_of_another_statement_in_the_second_kid(self):
        A = neg(R)
        first = right(A, based(1))
        second = right(either(P, R), left(A, based(2)))
        told = right(either(P, R), cut(A, first, left(A, based(2))))
        self.assertStep(BASE, cut(A, first, second), told)

    def test_a_rule_of_two_kids_in_the_second_kid(self):
        A = neg(R)
        kids = left(A, based(1)), left(A, based(2))
        first = right(A, based(3))
        told = left(either(P, Q), cut(A, first, kids[0]), cut(A, first, kids[1]))
        self.assertStep(BASE, cut(A, first, left(either(P, Q), *kids)), told)

    def test_the_second_kid_is_fitted_to_the_row_there(self):
        A = some(word("p", "0"))
        lower, upper = some(both(word("p", "0"), word("q", "0"))), some(either(word("p", "0"), word("r", "0")))
        row = row_of([lower], [upper])
        kid = left(both(PA, word("q", "a")), right(A, CLOSE, by="a"))
        first = left(lower, kid, by="a")

        def second(name):
            A_or = either(word("p", name), word("r", name))
            return left(A, right(upper, right(A_or, CLOSE), by=name), by=name)

        self.assertStep(row, cut(A, first, second("a")), left(lower, cut(A, kid, second("n0")), by="a"))
        self.assertStep(row, cut(A, first, second("b")), left(lower, cut(A, kid, second("b")), by="a"))

    def test_the_first_kid_is_fitted_to_the_row_there(self):
        A = every(word("p", "0"))
        lower, upper = every(both(word("p", "0"), word("q", "0"))), every(either(word("p", "0"), word("r", "0")))
        row = row_of([lower], [upper])

        def first(name):
            A_and = both(word("p", name), word("q", name))
            return right(A, left(lower, left(A_and, CLOSE), by=name), by=name)

        kid = right(either(PA, word("r", "a")), left(A, CLOSE, by="a"))
        second = right(upper, kid, by="a")
        self.assertStep(row, cut(A, first("a"), second), right(upper, cut(A, first("n0"), kid), by="a"))
        self.assertStep(row, cut(A, first("n0"), second), right(upper, cut(A, first("n0"), kid), by="a"))

    def test_the_cuts_statement_is_in_the_row_there(self):
        # Its name n0 is no name of the rule that gets the fresh one.
        lower = some(word("s", "0"))
        row = more(BASE, row_of([WITNESS, lower], []))
        A = neg(word("r", "n0"))
        kid, stays = right(A, based()), left(A, based())
        tree = cut(A, left(lower, kid, by="a"), left(either(P, Q), stays, left(WITNESS, based(), by="a")))
        second = left(either(P, Q), stays, left(WITNESS, based(), by="n1"))
        self.assertStep(row, tree, left(lower, cut(A, kid, second), by="a"))
        A = both(R, word("r", "n0"))
        kid, stays = left(A, based()), based()
        tree = cut(A, right(A, left(WITNESS, based(), by="a"), stays), left(lower, kid, by="a"))
        first = right(A, left(WITNESS, based(), by="n1"), stays)
        self.assertStep(row, tree, left(lower, cut(A, first, kid), by="a"))


class TakenApart(Checked):
    """Both kids are rules of the cut's statement."""

    def test_not(self):
        A = neg(R)
        L, K = right(A, based(1)), left(A, based(2))
        told = cut(R, cut(A, L, based(2)), cut(A, based(1), K))
        self.assertStep(BASE, cut(A, L, K), told)

    def test_and(self):
        A = both(R, neg(Q))
        L, K = right(A, based(1), based(2)), left(A, based(3))
        told = cut(R, cut(A, based(1), K), cut(neg(Q), cut(A, based(2), K), cut(A, L, based(3))))
        self.assertStep(BASE, cut(A, L, K), told)

    def test_or(self):
        A = either(R, neg(Q))
        L, K = right(A, based(1)), left(A, based(2), based(3))
        told = cut(neg(Q), cut(R, cut(A, based(1), K), cut(A, L, based(2))), cut(A, L, based(3)))
        self.assertStep(BASE, cut(A, L, K), told)

    def test_if(self):
        A = when(R, neg(Q))
        L, K = right(A, based(1)), left(A, based(2), based(3))
        told = cut(R, cut(A, L, based(2)), cut(neg(Q), cut(A, based(1), K), cut(A, L, based(3))))
        self.assertStep(BASE, cut(A, L, K), told)

    def test_all(self):
        L, K = right(EVERY, based(1), by="a"), left(EVERY, based(2), by="b")
        told = cut(PB, cut(EVERY, based(1), K), cut(EVERY, L, based(2)))
        self.assertStep(BASE, cut(EVERY, L, K), told)

    def test_some(self):
        L, K = right(SOME, based(1), by="a"), left(SOME, based(2), by="b")
        told = cut(PA, cut(SOME, based(1), K), cut(SOME, L, based(2)))
        self.assertStep(BASE, cut(SOME, L, K), told)

    def test_by_what_was_added(self):
        A = both(P, Q)
        row = row_of([P, Q, either(P, Q)], [either(Q, R)])
        L, K = right(A, CLOSE, CLOSE), left(A, right(either(Q, R), CLOSE))
        kid = right(either(Q, R), CLOSE)
        told = cut(P, cut(A, CLOSE, K), cut(Q, cut(A, CLOSE, K), cut(A, L, kid)))
        self.assertStep(row, cut(A, L, K), told)

    def test_the_same_statement_twice_in_it(self):
        A = both(R, R)
        L, K = right(A, based(1), based(2)), left(A, based(3))
        told = cut(R, cut(A, based(1), K), cut(R, cut(A, based(2), K), cut(A, L, based(3))))
        self.assertStep(BASE, cut(A, L, K), told)


class NamesOfAll(Checked):
    """The first kid's own name gives way to the second kid's name."""

    def setUp(self):
        self.row = more(BASE, row_of([WITNESS], [SOME]))

    def test_the_kid_is_changed_to_the_name_that_stands(self):
        L = right(EVERY, right(SOME, based(1), by="a"), by="a")
        K = left(EVERY, based(2), by="b")
        told = cut(PB, cut(EVERY, right(SOME, based(1), by="b"), K), cut(EVERY, L, based(2)))
        self.assertStep(self.row, cut(EVERY, L, K), told)

    def test_an_own_name_above_that_is_the_name_that_stands(self):
        L = right(EVERY, left(WITNESS, right(SOME, based(1), by="a"), by="b"), by="a")
        K = left(EVERY, based(2), by="b")
        kid = left(WITNESS, right(SOME, based(1), by="b"), by="n0")

        # As it stood, L has the name b that is there by now.
        first = right(EVERY, left(WITNESS, right(SOME, based(1), by="a"), by="n0"), by="a")
        told = cut(PB, cut(EVERY, kid, K), cut(EVERY, first, based(2)))
        self.assertStep(self.row, cut(EVERY, L, K), told)

    def test_an_own_name_above_that_is_the_own_name_once_more(self):
        # The own name is no name of the row above, since the body has no place.
        A = every(R)
        L = right(A, left(WITNESS, right(SOME, based(1), by="a"), by="a"), by="a")
        K = left(A, based(2), by="b")
        kid = left(WITNESS, right(SOME, based(1), by="n0"), by="n0")
        told = cut(R, cut(A, kid, K), cut(A, L, based(2)))
        self.assertStep(self.row, cut(A, L, K), told)

    def test_both_have_the_same_name(self):
        L = right(EVERY, right(SOME, based(1), by="a"), by="a")
        K = left(EVERY, based(2), by="a")
        first = right(EVERY, right(SOME, based(1), by="n0"), by="n0")
        told = cut(PA, cut(EVERY, right(SOME, based(1), by="a"), K), cut(EVERY, first, based(2)))
        self.assertStep(self.row, cut(EVERY, L, K), told)

    def test_the_name_that_stands_is_one_of_the_row(self):
        row = more(self.row, [("left", word("r", "b"))])
        L = right(EVERY, left(WITNESS, right(SOME, based(1), by="a"), by="n1"), by="a")
        K = left(EVERY, right(SOME, based(2), by="b"), by="b")
        kid = left(WITNESS, right(SOME, based(1), by="b"), by="n1")
        told = cut(PB, cut(EVERY, kid, K), cut(EVERY, L, right(SOME, based(2), by="b")))
        self.assertStep(row, cut(EVERY, L, K), told)

    def test_the_second_kid_is_fitted_as_it_stood(self):
        # An own name in K that is none of its row, but one behind the change.
        A = every(R)
        L = right(A, based(1), by="a")
        K = left(A, left(WITNESS, based(2), by="a"), by="b")
        told = cut(R, cut(A, based(1), K), cut(A, L, left(WITNESS, based(2), by="a")))
        self.assertStep(self.row, cut(A, L, K), told)
        K = left(A, left(WITNESS, based(2), by="b"), by="b")
        told = cut(R, cut(A, based(1), K), cut(A, L, left(WITNESS, based(2), by="b")))
        self.assertStep(self.row, cut(A, L, K), told)

    def test_fresh_names_shun_both(self):
        L = right(EVERY, left(WITNESS, based(1), by="n0"), by="n1")
        K = left(EVERY, based(2), by="n0")
        first = right(EVERY, left(WITNESS, based(1), by="n2"), by="n1")
        told = cut(word("p", "n0"), cut(EVERY, left(WITNESS, based(1), by="n2"), K), cut(EVERY, first, based(2)))
        self.assertStep(self.row, cut(EVERY, L, K), told)
        A = every(R)
        L = right(A, left(WITNESS, based(1), by="n1"), by="n0")
        K = left(A, based(2), by="n1")
        told = cut(R, cut(A, left(WITNESS, based(1), by="n2"), K), cut(A, L, based(2)))
        self.assertStep(self.row, cut(A, L, K), told)


class NamesOfSome(Checked):
    """The second kid's own name gives way to the first kid's name."""

    def setUp(self):
        self.row = more(BASE, row_of([WITNESS, EVERY], []))

    def test_the_kid_is_changed_to_the_name_that_stands(self):
        L = right(SOME, based(1), by="a")
        K = left(SOME, left(EVERY, based(2), by="b"), by="b")
        told = cut(PA, cut(SOME, based(1), K), cut(SOME, L, left(EVERY, based(2), by="a")))
        self.assertStep(self.row, cut(SOME, L, K), told)

    def test_an_own_name_above_that_is_the_name_that_stands(self):
        L = right(SOME, based(1), by="a")
        K = left(SOME, left(WITNESS, left(EVERY, based(2), by="b"), by="a"), by="b")
        kid = left(WITNESS, left(EVERY, based(2), by="a"), by="n0")
        second = left(SOME, left(WITNESS, left(EVERY, based(2), by="b"), by="n0"), by="b")
        told = cut(PA, cut(SOME, based(1), second), cut(SOME, L, kid))
        self.assertStep(self.row, cut(SOME, L, K), told)

    def test_an_own_name_above_that_is_the_own_name_once_more(self):
        A = some(R)
        L = right(A, based(1), by="a")
        K = left(A, left(WITNESS, left(EVERY, based(2), by="b"), by="b"), by="b")
        kid = left(WITNESS, left(EVERY, based(2), by="n0"), by="n0")
        told = cut(R, cut(A, based(1), K), cut(A, L, kid))
        self.assertStep(self.row, cut(A, L, K), told)

    def test_both_have_the_same_name(self):
        L = right(SOME, based(1), by="b")
        K = left(SOME, left(EVERY, based(2), by="b"), by="b")
        second = left(SOME, left(EVERY, based(2), by="n0"), by="n0")
        told = cut(PB, cut(SOME, based(1), second), cut(SOME, L, left(EVERY, based(2), by="b")))
        self.assertStep(self.row, cut(SOME, L, K), told)

    def test_the_name_that_stands_is_one_of_the_row(self):
        row = more(self.row, [("left", word("r", "a"))])
        L = right(SOME, left(EVERY, based(1), by="a"), by="a")
        K = left(SOME, left(WITNESS, left(EVERY, based(2), by="b"), by="n1"), by="b")
        kid = left(WITNESS, left(EVERY, based(2), by="a"), by="n1")
        told = cut(PA, cut(SOME, left(EVERY, based(1), by="a"), K), cut(SOME, L, kid))
        self.assertStep(row, cut(SOME, L, K), told)

    def test_fresh_names_shun_both(self):
        L = right(SOME, based(1), by="n0")
        K = left(SOME, left(WITNESS, based(2), by="n0"), by="n1")
        second = left(SOME, left(WITNESS, based(2), by="n2"), by="n1")
        told = cut(word("p", "n0"), cut(SOME, based(1), second), cut(SOME, L, left(WITNESS, based(2), by="n2")))
        self.assertStep(self.row, cut(SOME, L, K), told)
        A = some(R)
        L = right(A, based(1), by="n1")
        K = left(A, left(WITNESS, based(2), by="n1"), by="n0")
        told = cut(R, cut(A, based(1), K), cut(A, L, left(WITNESS, based(2), by="n2")))
        self.assertStep(self.row, cut(A, L, K), told)


class WhichCut(Checked):
    """Each of these cuts gives way to its first kid, which is told by how many rules are too much in it."""

    def one(self, many):
        return cut(Q, based(many), based(10 + many))

    def test_the_first_kid_ahead_of_the_next(self):
        tree = left(either(P, Q), self.one(1), self.one(2))
        self.assertStep(BASE, tree, left(either(P, Q), based(1), self.one(2)))
        self.assertStep(BASE, left(either(P, Q), based(1), self.one(2)), left(either(P, Q), based(1), based(2)))

    def test_a_kid_with_all_above_it_ahead_of_the_next(self):
        deep = left(both(P, Q), left(either(P, Q), based(), left(both(P, Q), self.one(1))))
        told = left(both(P, Q), left(either(P, Q), based(), left(both(P, Q), based(1))))
        self.assertStep(BASE, left(either(P, Q), deep, self.one(2)), left(either(P, Q), told, self.one(2)))

    def test_a_cut_with_a_cut_above_it_waits(self):
        self.assertStep(BASE, cut(R, self.one(1), based()), cut(R, based(1), based()))
        self.assertStep(BASE, cut(R, based(), self.one(1)), cut(R, based(), based(1)))
        self.assertStep(BASE, cut(R, self.one(1), self.one(2)), cut(R, based(1), self.one(2)))
        self.assertStep(BASE, cut(R, based(1), self.one(2)), cut(R, based(1), based(2)))
        tree = cut(R, left(both(P, Q), self.one(1)), based())
        self.assertStep(BASE, tree, cut(R, left(both(P, Q), based(1)), based()))

    def test_cuts_within_cuts(self):
        tree = cut(R, cut(P, based(1), cut(R, self.one(2), based())), self.one(3))
        told = cut(R, cut(P, based(1), cut(R, based(2), based())), self.one(3))
        self.assertStep(BASE, tree, told)
        self.assertStep(BASE, told, cut(R, cut(P, based(1), based(2)), self.one(3)))

    def test_the_row_there_has_what_was_added_beneath(self):
        row = row_of([both(P, Q)], [either(P, R)])
        tree = left(both(P, Q), right(either(P, R), cut(neg(R), right(neg(R), CLOSE), CLOSE)))
        self.assertStep(row, tree, based())
        tree = cut(P, left(both(P, Q), cut(R, CLOSE, CLOSE)), right(either(P, R), cut(R, CLOSE, CLOSE)))
        told = cut(P, left(both(P, Q), CLOSE), right(either(P, R), cut(R, CLOSE, CLOSE)))
        self.assertStep(row, tree, told)
        self.assertStep(row, told, cut(P, left(both(P, Q), CLOSE), right(either(P, R), CLOSE)))

    def test_all_else_stays(self):
        tree = left(either(P, Q), bush(21), left(either(P, Q), self.one(1), bush(17)))
        told = left(either(P, Q), bush(21), left(either(P, Q), based(1), bush(17)))
        self.assertStep(BASE, tree, told)


class Refusals(unittest.TestCase):
    """First NoProof, then NoCut, then TooGreat."""

    def test_no_proof(self):
        wrong = cut(neg(P), based(), right(neg(P), based()))
        for tree in (CLOSE, left(both(P, Q), CLOSE), cut(P, CLOSE, CLOSE), wrong):
            for function in (step, clearing, cleared):
                with self.assertRaises(NoProof):
                    function(BASE, tree)

    def test_no_proof_ahead_of_no_cut(self):
        with self.assertRaises(NoProof):
            step(row_of([P], [Q]), CLOSE)
        with self.assertRaises(NoProof):
            step(BASE, left(both(Q, P), CLOSE))

    def test_no_cut(self):
        for tree in (based(), bush(50)):
            with self.assertRaises(NoCut):
                step(BASE, tree)
        with self.assertRaises(NoCut):
            step(row_of([P], [P]), CLOSE)

    def test_no_cut_ahead_of_too_great(self):
        for tree in (bush(601), based(38)):
            self.assertIs(fits(BASE, tree), True)
            with self.assertRaises(NoCut):
                step(BASE, tree)
            self.assertEqual(clearing(BASE, tree), [])
            self.assertEqual(cleared(BASE, tree), tree)

    def test_no_proof_ahead_of_too_great(self):
        tree = grown(bush(400))
        for function in (step, clearing, cleared):
            with self.assertRaises(NoProof):
                function(BASE[1:], tree)

    def test_more_than_600_nodes(self):
        # The step has 2 * (many + 1) + 11 nodes, and those beneath.
        for many, extra, behind in ((293, 1, 600), (294, 0, 601), (293, 0, 599), (293, 2, 601)):
            tree = grown(bush(many), extra)
            self.assertIs(fits(BASE, tree), True)
            self.assertLess(nodes(tree), 600)
            with self.subTest(behind=behind):
                if behind > 600:
                    for function in (step, clearing, cleared):
                        with self.assertRaises(TooGreat):
                            function(BASE, tree)
                else:
                    told = step(BASE, tree)
                    self.assertEqual(nodes(told), behind)
                    self.assertLessEqual(height(told), 40)
                    self.assertIs(fits(BASE, told), True)

    def test_higher_than_40(self):
        for many, extra, behind in ((34, 0, 40), (35, 0, 41), (33, 1, 40), (34, 1, 41), (33, 0, 39)):
            tree = raised(based(many), extra)
            self.assertIs(fits(BASE, tree), True)
            self.assertEqual(height(tree), behind - 1)
            with self.subTest(behind=behind):
                if behind > 40:
                    for function in (step, clearing, cleared):
                        with self.assertRaises(TooGreat):
                            function(BASE, tree)
                else:
                    told = step(BASE, tree)
                    self.assertEqual(height(told), behind)
                    self.assertIs(fits(BASE, told), True)

    def test_the_whole_tree_counts_not_the_cut_alone(self):
        beside = left(either(P, Q), bush(306), grown(bush(140)))
        self.assertIs(fits(BASE, beside), True)
        self.assertLess(nodes(beside), 600)
        self.assertEqual(nodes(step(BASE, beside)), 600)
        beside = left(either(P, Q), bush(307), grown(bush(140)))
        self.assertLess(nodes(beside), 600)
        with self.assertRaises(TooGreat):
            step(BASE, beside)
        aside = left(either(P, Q), based(37), grown(based()))
        self.assertEqual(height(aside), 41)
        with self.assertRaises(TooGreat):
            step(BASE, aside)

    def test_what_is_handed_in_too_great_may_step_to_what_is_not(self):
        tree = cut(Q, based(37), based(38))
        self.assertEqual(step(BASE, tree), based(37))
        tree = cut(Q, bush(600), bush(100))
        self.assertEqual(step(BASE, tree), bush(600))


class Clearing(unittest.TestCase):
    def test_without_cuts(self):
        self.assertEqual(clearing(BASE, based(2)), [])
        self.assertEqual(clearing(row_of([P], [P]), CLOSE), [])
        self.assertEqual(cleared(BASE, based(2)), based(2))
        self.assertEqual(cleared(row_of([P], [P]), CLOSE), CLOSE)

    def test_the_trees_behind_each_step(self):
        row = row_of([both(P, Q)], [either(Q, R)])
        second = right(either(Q, R), CLOSE)
        tree = cut(Q, left(both(P, Q), CLOSE), second)
        told = [left(both(P, Q), cut(Q, CLOSE, second)), left(both(P, Q), second)]
        self.assertEqual(clearing(row, tree), told)
        self.assertEqual(cleared(row, tree), told[-1])

    def test_a_list_of_trees(self):
        told = clearing(row_of([P], [P]), many_cuts(3))
        self.assertIsInstance(told, list)
        self.assertEqual(told, [cut(Q, CLOSE, cut(Q, CLOSE, CLOSE)), cut(Q, CLOSE, CLOSE), CLOSE])

    def test_exactly_a_hundred_steps(self):
        row = row_of([P], [P])
        told = clearing(row, many_cuts(100))
        self.assertEqual(len(told), 100)
        self.assertEqual([cuts(tree) for tree in told], list(range(99, -1, -1)))
        self.assertEqual(told[-1], CLOSE)
        self.assertEqual(cleared(row, many_cuts(100)), CLOSE)
        self.assertEqual(len(clearing(row, many_cuts(99))), 99)

    def test_a_cut_behind_a_hundred_steps(self):
        row = row_of([P], [P])
        for many in (101, 150):
            self.assertIs(fits(row, many_cuts(many)), True)
            for function in (clearing, cleared):
                with self.assertRaises(TooGreat):
                    function(row, many_cuts(many))
            self.assertEqual(cuts(step(row, many_cuts(many))), many - 1)

    def test_a_later_step_that_is_too_great(self):
        A = neg(R)
        kid = right(A, based())
        grows = cut(A, left(either(P, Q), kid, kid), left(A, bush(300)))
        tree = left(either(P, Q), cut(Q, based(), based()), grows)
        self.assertLess(nodes(tree), 600)
        self.assertEqual(step(BASE, tree), left(either(P, Q), based(), grows))
        for function in (clearing, cleared):
            with self.assertRaises(TooGreat):
                function(BASE, tree)

    def test_all_and_some_through_and_through(self):
        lower = every(when(word("p", "0"), word("q", "0")))
        row = row_of([lower, EVERY], [word("q", "c")])
        A = every(word("q", "0"))
        step_up = when(PA, word("q", "a"))
        first = right(A, left(lower, left(step_up, left(EVERY, CLOSE, by="a"), CLOSE), by="a"), by="a")
        second = left(A, CLOSE, by="c")
        self.assertIs(fits(row, cut(A, first, second)), True)
        there = when(word("p", "c"), word("q", "c"))
        told = left(lower, left(there, left(EVERY, CLOSE, by="c"), CLOSE), by="c")
        self.assertEqual(cleared(row, cut(A, first, second)), told)

    def test_a_new_list_each_time(self):
        row = row_of([P], [P])
        first = clearing(row, many_cuts(2))
        kept = list(first)
        first.append("z")
        self.assertEqual(clearing(row, many_cuts(2)), kept)
        self.assertEqual(first, kept + ["z"])
        none = clearing(row, CLOSE)
        none.append("z")
        self.assertEqual(clearing(row, CLOSE), [])


class Promises(unittest.TestCase):
    def test_each_step_fits_the_same_row_and_has_less_measure(self):
        many = 0
        for row, tree in carried_cuts() + sought_derivations(250):
            try:
                told = clearing(row, tree)
            except TooGreat:
                continue
            before = tree
            for behind in told:
                self.assertEqual(step(row, before), behind)
                self.assertIs(fits(row, behind), True, (row, before))
                self.assertLess(measure(behind), measure(before))
                before = behind
                many += 1
            self.assertEqual(cuts(before), 0)
            self.assertEqual(cleared(row, tree), before)
            if before != tree:
                with self.assertRaises(NoCut):
                    step(row, before)
        self.assertGreater(many, 2000)

    def test_what_a_cleared_derivation_says_are_parts_of_its_row(self):
        for row, tree in carried_cuts()[::3] + sought_derivations(120):
            try:
                end = cleared(row, tree)
            except TooGreat:
                continue
            for each in said(row, end):
                self.assertTrue(any(is_part(each, other) for other in row), (row, each))

    def test_what_is_handed_in_is_unchanged(self):
        for row, tree in carried_cuts()[::9]:
            kept = copy.deepcopy((row, tree))
            first = step(row, tree), clearing(row, tree), cleared(row, tree)
            self.assertEqual((row, tree), kept)
            self.assertEqual((step(row, tree), clearing(row, tree), cleared(row, tree)), first)


if __name__ == "__main__":
    unittest.main()
