import copy
import inspect
import unittest

from cutless.errors import NoProof, NotCleared, TooGreat
from cutless.parting import parted
from cutless.rows import more, row_of
from cutless.steps import cleared
from cutless.trees import cuts, fits
from tests.samples import (
    BASE,
    CLOSE,
    NO,
    P,
    Q,
    R,
    YES,
    assert_between,
    based,
    both,
    bush,
    carried_cuts,
    cut,
    dealings,
    either,
    every,
    left,
    neg,
    right,
    some,
    sought_derivations,
    when,
    word,
)

PA = word("p", "a")
PB = word("p", "b")
QA = word("q", "a")
EVERY = every(word("p", "0"))
SOME = some(word("p", "0"))
NONE = row_of([], [])


class Checked(unittest.TestCase):
    def assertParted(self, ones, others, tree, I, first, second):
        self.assertIs(fits(more(ones, others), tree), True)
        given = parted(ones, others, tree)
        self.assertEqual(given, (I, first, second))
        assert_between(self, ones, others, given)


def turned(I, first=CLOSE, second=CLOSE):
    """The trees for a statement by its rule on the right and on the left."""
    return right(I, first), left(I, second)


class Interface(unittest.TestCase):
    def test_the_arguments_are_called_as_told(self):
        self.assertEqual(list(inspect.signature(parted).parameters), ["ones", "others", "tree"])

    def test_a_tuple_of_three(self):
        told = parted(row_of([P], []), row_of([], [P]), CLOSE)
        self.assertIs(type(told), tuple)
        self.assertEqual(len(told), 3)


class Close(Checked):
    def test_the_first_part_closes_by_itself(self):
        for ones in (row_of([P], [P]), row_of([NO], []), row_of([], [YES])):
            for others in (NONE, row_of([Q], [R]), row_of([P], [P]), row_of([NO], [YES])):
                self.assertParted(ones, others, CLOSE, NO, CLOSE, CLOSE)

    def test_the_second_part_closes_by_itself(self):
        for others in (row_of([P], [P]), row_of([NO], []), row_of([], [YES])):
            for ones in (NONE, row_of([Q], [R]), row_of([P], [Q])):
                self.assertParted(ones, others, CLOSE, YES, CLOSE, CLOSE)

    def test_a_left_one_of_the_first_part(self):
        self.assertParted(row_of([P], []), row_of([], [P]), CLOSE, P, CLOSE, CLOSE)
        self.assertParted(row_of([EVERY, P], [Q]), row_of([R], [EVERY]), CLOSE, EVERY, CLOSE, CLOSE)

    def test_the_first_of_several_in_the_order_of_the_row(self):
        ones = row_of([R, Q, P, neg(P)], [])
        self.assertParted(ones, row_of([], [R, Q, P]), CLOSE, P, CLOSE, CLOSE)
        self.assertParted(ones, row_of([], [R, Q]), CLOSE, Q, CLOSE, CLOSE)
        self.assertParted(ones, row_of([], [R, Q, neg(P)]), CLOSE, neg(P), CLOSE, CLOSE)

    def test_a_left_one_of_the_second_part(self):
        self.assertParted(row_of([], [P]), row_of([P], []), CLOSE, neg(P), *turned(neg(P)))
        I = neg(neg(P))
        self.assertParted(row_of([Q], [neg(P)]), row_of([neg(P)], [R]), CLOSE, I, *turned(I))

    def test_the_first_of_several_of_the_second_part(self):
        others = row_of([R, Q, P], [])
        self.assertParted(row_of([], [R, Q, P]), others, CLOSE, neg(P), *turned(neg(P)))
        self.assertParted(row_of([], [R, Q]), others, CLOSE, neg(Q), *turned(neg(Q)))

    def test_the_first_part_comes_ahead_of_the_second(self):
        self.assertParted(row_of([Q], [P]), row_of([P], [Q]), CLOSE, Q, CLOSE, CLOSE)
        self.assertParted(row_of([Q, NO], [P]), row_of([P], [Q, YES]), CLOSE, NO, CLOSE, CLOSE)
        self.assertParted(row_of([Q], [P]), row_of([P], [Q, YES]), CLOSE, YES, CLOSE, CLOSE)

    def test_a_statement_in_both_parts(self):
        self.assertParted(row_of([P], []), row_of([P], [P]), CLOSE, YES, CLOSE, CLOSE)
        self.assertParted(row_of([P], [P]), row_of([P], []), CLOSE, NO, CLOSE, CLOSE)
        self.assertParted(row_of([P, Q], []), row_of([Q], [P]), CLOSE, P, CLOSE, CLOSE)


class OneBranch(Checked):
    def test_a_rule_of_the_first_part(self):
        A = both(P, Q)
        self.assertParted(row_of([A], []), row_of([], [Q]), left(A, CLOSE), Q, left(A, CLOSE), CLOSE)
        A = either(P, Q)
        first, second = turned(neg(P))
        self.assertParted(row_of([], [A]), row_of([P], []), right(A, CLOSE), neg(P), right(A, first), second)

    def test_a_rule_of_the_second_part(self):
        A = either(P, Q)
        self.assertParted(row_of([P], []), row_of([], [A]), right(A, CLOSE), P, CLOSE, right(A, CLOSE))
        A = when(P, Q)
        self.assertParted(row_of([Q], []), row_of([], [A]), right(A, CLOSE), Q, CLOSE, right(A, CLOSE))

    def test_not(self):
        A = neg(P)
        self.assertParted(row_of([A], []), row_of([P], []), left(A, CLOSE), neg(P), left(A, turned(A)[0]), turned(A)[1])
        self.assertParted(row_of([P], []), row_of([A], []), left(A, CLOSE), P, CLOSE, left(A, CLOSE))
        self.assertParted(row_of([], [A]), row_of([], [P]), right(A, CLOSE), P, right(A, CLOSE), CLOSE)

    def test_a_statement_that_lies_in_both_parts_is_the_first_parts(self):
        A = both(P, Q)
        ones, others = row_of([A], []), row_of([A], [Q])
        self.assertParted(ones, others, left(A, CLOSE), Q, left(A, CLOSE), CLOSE)
        ones, others = row_of([A], [Q]), row_of([A], [])
        self.assertParted(ones, others, left(A, CLOSE), NO, left(A, CLOSE), CLOSE)

    def test_the_side_counts(self):
        A = both(P, Q)
        ones, others = row_of([Q], [A]), row_of([A], [P])
        self.assertParted(ones, others, left(A, CLOSE), YES, CLOSE, left(A, CLOSE))

    def test_several_rules_one_above_the_other(self):
        A, B = both(P, Q), either(P, R)
        ones, others = row_of([A], []), row_of([], [B])
        self.assertParted(ones, others, based(), P, left(A, CLOSE), right(B, CLOSE))
        self.assertParted(others, ones, based(), neg(P), right(B, right(neg(P), CLOSE)), left(A, left(neg(P), CLOSE)))
        row = more(ones, others)
        self.assertParted(row, NONE, based(), NO, based(), CLOSE)
        self.assertParted(NONE, row, based(), YES, CLOSE, based())


class TwoBranches(Checked):
    def test_a_rule_of_the_first_part(self):
        A = either(P, Q)
        rule = left(A, CLOSE, CLOSE)
        self.assertParted(row_of([A], []), row_of([], [P, Q]), rule, A, right(A, rule), left(A, CLOSE, CLOSE))

    def test_a_rule_of_the_first_part_on_the_right(self):
        A = both(P, Q)
        I = either(neg(P), neg(Q))
        first = right(I, right(A, right(neg(P), CLOSE), right(neg(Q), CLOSE)))
        second = left(I, left(neg(P), CLOSE), left(neg(Q), CLOSE))
        self.assertParted(row_of([], [A]), row_of([P, Q], []), right(A, CLOSE, CLOSE), I, first, second)

    def test_a_rule_of_the_second_part(self):
        A = both(P, Q)
        rule = right(A, CLOSE, CLOSE)
        self.assertParted(row_of([P, Q], []), row_of([], [A]), rule, A, right(A, CLOSE, CLOSE), left(A, rule))

    def test_a_rule_of_the_second_part_on_the_left(self):
        A = when(P, Q)
        rule = left(A, CLOSE, CLOSE)
        I = both(P, neg(Q))
        first = right(I, CLOSE, right(neg(Q), CLOSE))
        second = left(I, left(A, CLOSE, left(neg(Q), CLOSE)))
        self.assertParted(row_of([P], [Q]), row_of([A], []), rule, I, first, second)

    def test_kids_that_differ(self):
        A = when(P, Q)
        tree = left(A, CLOSE, left(both(P, R), CLOSE))
        ones, others = row_of([A], [P]), row_of([P, both(P, R)], [Q])
        I = either(neg(P), Q)
        first = right(I, left(A, right(neg(P), CLOSE), CLOSE))
        second = left(I, left(neg(P), CLOSE), left(both(P, R), CLOSE))
        self.assertParted(ones, others, tree, I, first, second)
        I = both(P, YES)
        first = right(I, CLOSE, left(both(P, R), CLOSE))
        second = left(I, left(A, CLOSE, CLOSE))
        self.assertParted(row_of([P, both(P, R)], []), row_of([A], [Q]), tree, I, first, second)

    def test_a_statement_that_lies_in_both_parts(self):
        A = either(P, Q)
        I = either(P, NO)
        rule = left(A, CLOSE, CLOSE)
        first = right(I, left(A, CLOSE, CLOSE))
        second = left(I, CLOSE, CLOSE)
        self.assertParted(row_of([A], [Q]), row_of([A], [P]), rule, I, first, second)

    def test_one_above_the_other(self):
        A, B = either(P, Q), both(either(Q, P), YES)
        inner = right(either(Q, P), CLOSE)
        rule = right(B, inner, CLOSE)
        tree = left(A, rule, rule)
        I0, I1 = both(P, YES), both(Q, YES)
        I = either(I0, I1)
        first = right(I, left(A, right(I0, CLOSE, CLOSE), right(I1, CLOSE, CLOSE)))
        second = left(I, left(I0, right(B, inner, CLOSE)), left(I1, right(B, inner, CLOSE)))
        self.assertParted(row_of([A], []), row_of([], [B]), tree, I, first, second)


class Named(Checked):
    def test_a_name_the_statement_has_that_is_none_of_the_first_parts_row(self):
        tree = left(EVERY, CLOSE, by="a")
        first = right(EVERY, left(EVERY, CLOSE, by="a"), by="a")
        second = left(EVERY, CLOSE, by="a")
        self.assertParted(row_of([EVERY], []), row_of([], [PA]), tree, EVERY, first, second)

    def test_a_name_the_statement_has_that_is_none_of_the_second_parts_row(self):
        tree = right(SOME, CLOSE, by="a")
        first = right(SOME, CLOSE, by="a")
        second = left(SOME, right(SOME, CLOSE, by="a"), by="a")
        self.assertParted(row_of([PA], []), row_of([], [SOME]), tree, SOME, first, second)

    def test_some_on_the_right_in_the_first_part(self):
        tree = right(SOME, CLOSE, by="a")
        I = every(neg(word("p", "0")))
        first = right(I, right(SOME, right(neg(PA), CLOSE), by="a"), by="a")
        second = left(I, left(neg(PA), CLOSE), by="a")
        self.assertParted(row_of([], [SOME]), row_of([PA], []), tree, I, first, second)

    def test_all_on_the_left_in_the_second_part(self):
        tree = left(EVERY, CLOSE, by="a")
        I = some(neg(word("p", "0")))
        first = right(I, right(neg(PA), CLOSE), by="a")
        second = left(I, left(EVERY, left(neg(PA), CLOSE), by="a"), by="a")
        self.assertParted(row_of([], [PA]), row_of([EVERY], []), tree, I, first, second)

    def test_a_name_that_is_one_of_that_parts_row(self):
        tree = left(EVERY, CLOSE, by="a")
        ones = row_of([EVERY, QA], [])
        self.assertParted(ones, row_of([], [PA]), tree, PA, left(EVERY, CLOSE, by="a"), CLOSE)
        others = row_of([EVERY, QA], [])
        first, second = turned(neg(PA))
        self.assertParted(row_of([], [PA]), others, tree, neg(PA), first, left(EVERY, second, by="a"))

    def test_a_name_of_the_other_parts_row_alone_does_not_count(self):
        tree = left(EVERY, CLOSE, by="a")
        first = right(EVERY, left(EVERY, CLOSE, by="a"), by="a")
        second = left(EVERY, CLOSE, by="a")
        self.assertParted(row_of([EVERY], []), row_of([QA], [PA]), tree, EVERY, first, second)

    def test_a_name_that_the_kids_statement_has_not(self):
        tree = left(EVERY, CLOSE, by="a")
        self.assertParted(row_of([EVERY, P], []), row_of([], [P]), tree, P, tree, CLOSE)
        self.assertParted(row_of([P], []), row_of([EVERY], [P]), tree, P, CLOSE, tree)
        ones, others = row_of([EVERY, PB], []), row_of([], [PB])
        self.assertParted(ones, others, tree, PB, tree, CLOSE)

    def test_a_name_beside_others(self):
        A = every(word("p", "0", "b"))
        there = word("p", "a", "b")
        tree = left(A, CLOSE, by="a")
        first = right(A, left(A, CLOSE, by="a"), by="a")
        second = left(A, CLOSE, by="a")
        self.assertParted(row_of([A], []), row_of([], [there]), tree, A, first, second)
        I = every(word("p", "0", "0"))
        tree = left(I, CLOSE, by="a")
        told = right(I, tree, by="a"), left(I, CLOSE, by="a")
        self.assertParted(row_of([I], []), row_of([], [word("p", "a", "a")]), tree, I, *told)

    def test_a_name_within_further_all_and_some(self):
        A = every(some(word("p", "0", "1")))
        there = some(word("p", "0", "a"))
        tree = left(A, CLOSE, by="a")
        first = right(A, tree, by="a")
        self.assertParted(row_of([A], []), row_of([], [there]), tree, A, first, left(A, CLOSE, by="a"))

    def test_own_names(self):
        A = every(either(word("p", "0"), Q))
        tree = right(A, left(EVERY, right(either(PA, Q), CLOSE), by="a"), by="a")
        ones, others = row_of([EVERY], []), row_of([], [A])
        first = right(EVERY, left(EVERY, CLOSE, by="a"), by="a")
        second = right(A, left(EVERY, right(either(PA, Q), CLOSE), by="a"), by="a")
        self.assertParted(ones, others, tree, EVERY, first, second)
        I = some(neg(word("p", "0")))
        first = right(A, right(I, right(either(PA, Q), right(neg(PA), CLOSE)), by="a"), by="a")
        second = left(I, left(EVERY, left(neg(PA), CLOSE), by="a"), by="a")
        self.assertParted(others, ones, tree, I, first, second)

    def test_an_own_name_of_a_some_in_the_first_part(self):
        A = some(either(word("p", "0"), Q))
        tree = left(SOME, right(A, right(either(PA, Q), CLOSE), by="a"), by="a")
        ones, others = row_of([SOME], []), row_of([], [A])
        first = left(SOME, right(SOME, CLOSE, by="a"), by="a")
        second = left(SOME, right(A, right(either(PA, Q), CLOSE), by="a"), by="a")
        self.assertParted(ones, others, tree, SOME, first, second)

    def test_two_names_one_above_the_other(self):
        A = every(every(word("p", "0", "1")))
        inner = every(word("p", "0", "a"))
        tree = left(A, left(inner, CLOSE, by="b"), by="a")
        ones, others = row_of([A], []), row_of([], [word("p", "b", "a")])
        # The nearest rule's name is bound first, so its all stands within.
        first = right(A, left(A, right(inner, left(inner, CLOSE, by="b"), by="b"), by="a"), by="a")
        second = left(A, left(inner, CLOSE, by="b"), by="a")
        self.assertParted(ones, others, tree, A, first, second)

    def test_the_row_beneath_the_rule_is_asked(self):
        # Above the rule the part's row has its name; beneath it has not.
        A = every(both(word("p", "0"), word("q", "0")))
        rule = both(PA, QA)
        tree = left(A, left(rule, CLOSE), by="a")
        I = every(word("p", "0"))
        first = right(I, left(A, left(rule, CLOSE), by="a"), by="a")
        second = left(I, CLOSE, by="a")
        self.assertParted(row_of([A], []), row_of([], [PA]), tree, I, first, second)


class Refusals(unittest.TestCase):
    def test_no_proof(self):
        for ones, others, tree in [
            (row_of([P], []), row_of([], [Q]), CLOSE),
            (NONE, NONE, CLOSE),
            (row_of([P], []), NONE, CLOSE),
            (row_of([both(P, Q)], []), row_of([], [R]), left(both(P, Q), CLOSE)),
            (row_of([EVERY], []), row_of([], [PA]), left(EVERY, CLOSE, by="b")),
        ]:
            with self.assertRaises(NoProof):
                parted(ones, others, tree)

    def test_an_own_name_that_is_one_of_the_other_part(self):
        tree = right(EVERY, left(EVERY, CLOSE, by="a"), by="a")
        parted(row_of([EVERY], []), row_of([], [EVERY]), tree)
        for added in (("left", QA), ("right", QA)):
            with self.assertRaises(NoProof):
                parted(more(row_of([EVERY], []), [added]), row_of([], [EVERY]), tree)
            with self.assertRaises(NoProof):
                parted(row_of([EVERY], []), more(row_of([], [EVERY]), [added]), tree)

    def test_not_cleared(self):
        for tree in (cut(P, CLOSE, CLOSE), cut(neg(Q), right(neg(Q), CLOSE), cut(P, CLOSE, CLOSE))):
            with self.assertRaises(NotCleared):
                parted(row_of([P], []), row_of([], [P]), tree)
        with self.assertRaises(NotCleared):
            parted(BASE, NONE, left(both(P, Q), cut(R, based(), based())))

    def test_no_proof_ahead_of_not_cleared(self):
        for tree in (cut(P, CLOSE, CLOSE), left(both(P, Q), cut(P, CLOSE, CLOSE))):
            with self.assertRaises(NoProof):
                parted(row_of([P], []), row_of([], [Q]), tree)


class Promises(unittest.TestCase):
    def test_every_dealing_of_many_derivations(self):
        kinds = {}
        for row, tree in carried_cuts()[::2] + sought_derivations(250):
            try:
                end = cleared(row, tree)
            except TooGreat:
                continue
            for ones, others in dealings(row):
                told = parted(ones, others, end)
                assert_between(self, ones, others, told)
                kinds[told[0][0]] = kinds.get(told[0][0], 0) + 1
        self.assertLessEqual({"yes", "no", "word", "not", "and", "or", "all", "some"}, set(kinds))

    def test_great_derivations(self):
        for tree in (based(37), bush(600)):
            for ones, others in dealings(BASE):
                assert_between(self, ones, others, parted(ones, others, tree))

    def test_what_is_handed_in_is_unchanged(self):
        for row, tree in sought_derivations(60):
            if cuts(tree):
                continue
            for ones, others in dealings(row):
                kept = copy.deepcopy((ones, others, tree))
                first = parted(ones, others, tree)
                self.assertEqual((ones, others, tree), kept)
                self.assertEqual(parted(ones, others, tree), first)


if __name__ == "__main__":
    unittest.main()
