import copy
import inspect
import itertools
import unittest

from cutless.rows import closes, is_own, marks, more, names_in, parts, row_of
from cutless.statements import put_in, words_of
from tests.samples import (
    KINDS,
    NO,
    P,
    Q,
    R,
    YES,
    both,
    either,
    every,
    neg,
    nested,
    part_count,
    some,
    up_to,
    when,
    wide,
    word,
)

SIDES = ("left", "right")


def turned(side):
    return {"left": "right", "right": "left"}[side]


class Interface(unittest.TestCase):
    def test_the_arguments_are_called_as_told(self):
        told = [
            (row_of, ["lefts", "rights"]),
            (more, ["row", "added"]),
            (closes, ["row"]),
            (names_in, ["row"]),
            (parts, ["side", "A", "name"]),
            (is_own, ["side", "A"]),
            (marks, ["side", "A"]),
        ]
        for function, names in told:
            with self.subTest(function=function.__name__):
                self.assertEqual(list(inspect.signature(function).parameters), names)


class RowOf(unittest.TestCase):
    def test_sorted_with_the_left_ahead(self):
        told = (("left", P), ("left", Q), ("right", P), ("right", R))
        self.assertEqual(row_of([Q, P], [R, P]), told)

    def test_each_once(self):
        self.assertEqual(row_of([P, Q, P], [P, P]), (("left", P), ("left", Q), ("right", P)))

    def test_empty_lists(self):
        self.assertEqual(row_of([], []), ())
        self.assertEqual(row_of([P], []), (("left", P),))
        self.assertEqual(row_of([], [P]), (("right", P),))

    def test_the_order_of_tuples(self):
        rights = [YES, NO, P, neg(P), both(P, Q), either(P, Q), when(P, Q), every(P), some(P)]
        told = ["all", "and", "if", "no", "not", "or", "some", "word", "yes"]
        self.assertEqual([A[0] for side, A in row_of([], rights)], told)

    def test_words_by_text_then_by_terms(self):
        given = [word("q"), word("p", "b"), word("p", "a", "a"), word("p", "a"), word("p"), word("p", "0")]
        told = [word("p"), word("p", "0"), word("p", "a"), word("p", "a", "a"), word("p", "b"), word("q")]
        self.assertEqual([A for side, A in row_of(given, [])], told)

    def test_all_orders_give_the_same_row(self):
        given = [P, both(P, Q), both(P, R), neg(YES), word("p", "a")]
        told = row_of(given, [])
        self.assertEqual(list(told), sorted(("left", A) for A in given))
        for order in itertools.permutations(given):
            self.assertEqual(row_of(list(order), []), told)

    def test_tuples_of_tuples(self):
        row = row_of([Q, P], [R])
        self.assertIs(type(row), tuple)
        for signed in row:
            self.assertIs(type(signed), tuple)
            self.assertEqual(len(signed), 2)

    def test_statements_that_lie_deep_stand_once(self):
        deep, other = nested(39, neg, P), nested(39, neg, Q)
        self.assertEqual(row_of([other, deep, other, deep], []), (("left", deep), ("left", other)))

    def test_forty_statements(self):
        given = [word("p", f"n{k}") for k in range(20)]
        row = row_of(given + given, given)
        self.assertEqual(len(row), 40)
        self.assertEqual(list(row), sorted(row))

    def test_the_lists_handed_in_stay(self):
        lefts, rights = [Q, P, Q], [R, P]
        row_of(lefts, rights)
        self.assertEqual((lefts, rights), ([Q, P, Q], [R, P]))

    def test_the_row_stays_when_the_lists_are_changed(self):
        lefts, rights = [P], [Q]
        row = row_of(lefts, rights)
        lefts.append(R)
        rights.clear()
        self.assertEqual(row, (("left", P), ("right", Q)))


class More(unittest.TestCase):
    def test_added_in_its_order(self):
        row = row_of([Q], [Q])
        told = row_of([P, Q], [P, Q])
        self.assertEqual(more(row, [("right", P), ("left", P)]), told)

    def test_what_is_there_is_there_once(self):
        row = row_of([P], [Q])
        self.assertEqual(more(row, [("left", P), ("right", Q)]), row)
        self.assertEqual(more(row, row), row)
        self.assertEqual(more(row, [("left", R), ("left", R)]), row_of([P, R], [Q]))

    def test_the_other_side_is_another_one(self):
        self.assertEqual(more(row_of([P], []), [("right", P)]), row_of([P], [P]))

    def test_a_list_or_a_row_added(self):
        row, added = row_of([P], []), row_of([Q], [R])
        self.assertEqual(more(row, added), row_of([P, Q], [R]))
        self.assertEqual(more(row, list(added)), row_of([P, Q], [R]))

    def test_nothing_added(self):
        row = row_of([P], [Q])
        self.assertEqual(more(row, []), row)
        self.assertEqual(more(row, ()), row)
        self.assertEqual(more((), []), ())

    def test_to_no_row(self):
        self.assertEqual(more((), [("right", Q), ("left", P)]), row_of([P], [Q]))

    def test_a_tuple_is_given(self):
        for row, added in (((), []), (row_of([P], []), []), (row_of([P], []), [("left", Q)])):
            self.assertIs(type(more(row, added)), tuple)

    def test_deep_statements(self):
        deep = nested(39, neg, P)
        self.assertEqual(more(row_of([deep], []), [("left", deep)]), row_of([deep], []))

    def test_what_is_handed_in_stays(self):
        row, added = row_of([P], [Q]), [("right", R), ("left", R), ("right", R)]
        given = more(row, added)
        self.assertEqual(row, row_of([P], [Q]))
        self.assertEqual(added, [("right", R), ("left", R), ("right", R)])
        added.append(("left", YES))
        self.assertEqual(given, row_of([P, R], [Q, R]))


class Closes(unittest.TestCase):
    def assert_closes(self, row, told):
        self.assertIs(closes(row), told, row)

    def test_yes_on_the_right(self):
        self.assert_closes(row_of([], [YES]), True)
        self.assert_closes(row_of([P], [Q, YES]), True)

    def test_no_on_the_left(self):
        self.assert_closes(row_of([NO], []), True)
        self.assert_closes(row_of([NO, P], [Q]), True)

    def test_yes_on_the_left_and_no_on_the_right_close_nothing(self):
        self.assert_closes(row_of([YES], []), False)
        self.assert_closes(row_of([], [NO]), False)
        self.assert_closes(row_of([YES], [NO]), False)
        self.assert_closes(row_of([YES, P], [NO, Q]), False)

    def test_yes_or_no_on_both_sides(self):
        self.assert_closes(row_of([YES], [YES]), True)
        self.assert_closes(row_of([NO], [NO]), True)

    def test_yes_and_no_within_a_statement_close_nothing(self):
        self.assert_closes(row_of([neg(YES), both(NO, NO)], [neg(NO), either(YES, YES)]), False)

    def test_one_statement_on_both_sides_at_any_place(self):
        others = [word("a"), word("c"), word("e")]
        shared = [word("b"), word("aa"), word("d"), word("f"), both(P, Q), nested(39, neg, P)]
        for A in shared:
            self.assert_closes(row_of(others + [A], [A]), True)
            self.assert_closes(row_of([A], [word("g"), word("h"), A]), True)
            self.assert_closes(row_of(others + [A], [A, word("g"), word("b", "a")]), True)
            self.assert_closes(row_of(others + [A], [word("g")]), False)

    def test_of_each_kind(self):
        for kind, A in KINDS.items():
            with self.subTest(kind=kind):
                self.assert_closes(row_of([A], [A]), True)

    def test_almost_the_same_on_both_sides(self):
        self.assert_closes(row_of([P], [word("p", "a")]), False)
        self.assert_closes(row_of([word("p", "a")], [word("p", "b")]), False)
        self.assert_closes(row_of([both(P, Q)], [both(Q, P)]), False)
        self.assert_closes(row_of([P], [neg(P)]), False)

    def test_one_side_alone(self):
        self.assert_closes(row_of([P, neg(P)], []), False)
        self.assert_closes(row_of([], [P, neg(P)]), False)

    def test_no_row_at_all(self):
        self.assert_closes((), False)


class NamesIn(unittest.TestCase):
    def test_of_all_statements_sorted_each_once(self):
        row = row_of([word("p", "c", "a"), word("q", "b")], [word("p", "a"), neg(word("r", "n0"))])
        self.assertEqual(names_in(row), ["a", "b", "c", "n0"])

    def test_of_no_row(self):
        self.assertEqual(names_in(()), [])

    def test_without_names(self):
        self.assertEqual(names_in(row_of([P, YES], [every(word("p", "0"))])), [])

    def test_places_are_none(self):
        row = row_of([every(word("p", "0", "a"))], [nested(11, some, word("p", "10", "b"))])
        self.assertEqual(names_in(row), ["a", "b"])

    def test_of_either_side_alone(self):
        self.assertEqual(names_in(row_of([word("p", "a")], [])), ["a"])
        self.assertEqual(names_in(row_of([], [word("p", "a")])), ["a"])


class Parts(unittest.TestCase):
    def test_not(self):
        self.assertEqual(parts("left", neg(P), ""), [[("right", P)]])
        self.assertEqual(parts("right", neg(P), ""), [[("left", P)]])

    def test_and(self):
        self.assertEqual(parts("left", both(Q, P), ""), [[("left", Q), ("left", P)]])
        self.assertEqual(parts("right", both(Q, P), ""), [[("right", Q)], [("right", P)]])

    def test_or(self):
        self.assertEqual(parts("left", either(Q, P), ""), [[("left", Q)], [("left", P)]])
        self.assertEqual(parts("right", either(Q, P), ""), [[("right", Q), ("right", P)]])

    def test_if(self):
        self.assertEqual(parts("left", when(Q, P), ""), [[("right", Q)], [("left", P)]])
        self.assertEqual(parts("right", when(Q, P), ""), [[("left", Q), ("right", P)]])

    def test_all_and_some(self):
        body = both(word("p", "0", "b"), some(word("q", "1", "0")))
        for side in SIDES:
            for build in (every, some):
                told = [[(side, both(word("p", "a", "b"), some(word("q", "a", "0"))))]]
                self.assertEqual(parts(side, build(body), "a"), told)

    def test_all_and_some_by_a_name_that_is_in_it(self):
        self.assertEqual(parts("left", every(word("p", "0", "a")), "a"), [[("left", word("p", "a", "a"))]])

    def test_all_and_some_without_the_place(self):
        for side in SIDES:
            for build in (every, some):
                self.assertEqual(parts(side, build(P), "a"), [[(side, P)]])

    def test_twice_the_same_statement(self):
        for side in SIDES:
            for build in (both, either):
                told = {1: [[(side, P), (side, P)]], 2: [[(side, P)], [(side, P)]]}
                given = parts(side, build(P, P), "")
                self.assertEqual(given, told[len(given)])

    def test_word_yes_no_whatever_the_name(self):
        for side in SIDES:
            for A in (P, word("p", "a"), word("not", "a"), YES, NO):
                for name in ("", "a", "n0"):
                    self.assertEqual(parts(side, A, name), [])

    def test_the_name_is_looked_at_for_all_and_some_alone(self):
        pa = word("p", "a")
        for side in SIDES:
            for A in (neg(pa), both(pa, Q), either(pa, Q), when(pa, every(word("p", "0")))):
                self.assertEqual(parts(side, A, "a"), parts(side, A, ""))
                self.assertEqual(parts(side, A, "c"), parts(side, A, ""))

    def test_lists_of_lists_of_tuples(self):
        for side in SIDES:
            for A in KINDS.values():
                given = parts(side, A, "a")
                self.assertIs(type(given), list)
                for branch in given:
                    self.assertIs(type(branch), list)
                    for signed in branch:
                        self.assertIs(type(signed), tuple)

    def test_parts_have_fewer_parts_down_to_the_leaves(self):
        for A in up_to(2):
            for side in SIDES:
                for branch in parts(side, A, "a"):
                    for inner, B in branch:
                        self.assertLess(part_count(B), part_count(A))

    def test_what_comes_by_a_name_is_the_body_with_it_put_in(self):
        for body in up_to(1, depth=1):
            for side in SIDES:
                self.assertEqual(parts(side, every(body), "c"), [[(side, put_in(body, "c"))]])
                self.assertEqual(parts(side, some(body), "c"), [[(side, put_in(body, "c"))]])


class IsOwn(unittest.TestCase):
    def test_all_nine_kinds_on_either_side(self):
        for kind, A in KINDS.items():
            for side in SIDES:
                with self.subTest(kind=kind, side=side):
                    told = (side, kind) in [("right", "all"), ("left", "some")]
                    self.assertIs(is_own(side, A), told)

    def test_an_all_or_some_further_within_tells_nothing(self):
        for side in SIDES:
            self.assertIs(is_own(side, neg(every(P))), False)
            self.assertIs(is_own(side, both(some(P), every(P))), False)
        self.assertIs(is_own("left", every(some(P))), False)
        self.assertIs(is_own("right", every(some(P))), True)
        self.assertIs(is_own("left", some(every(P))), True)
        self.assertIs(is_own("right", some(every(P))), False)

    def test_words_called_alike(self):
        self.assertIs(is_own("right", word("p", "all")), False)
        self.assertIs(is_own("left", word("p", "some")), False)


class Marks(unittest.TestCase):
    def test_a_word_stands_on_the_statement_s_side(self):
        for side in SIDES:
            self.assertEqual(marks(side, P), [("p", 0, side)])
            self.assertEqual(marks(side, word("p", "a", "b")), [("p", 2, side)])

    def test_none_for_yes_and_no(self):
        for side in SIDES:
            for A in (YES, NO, neg(YES), both(YES, NO), when(NO, YES), every(NO)):
                self.assertEqual(marks(side, A), [])

    def test_turned_about_within_a_not(self):
        for side in SIDES:
            self.assertEqual(marks(side, neg(P)), [("p", 0, turned(side))])
            self.assertEqual(marks(side, neg(neg(P))), [("p", 0, side)])
            self.assertEqual(marks(side, neg(neg(neg(P)))), [("p", 0, turned(side))])

    def test_turned_about_in_the_first_statement_of_an_if(self):
        for side in SIDES:
            self.assertEqual(marks(side, when(P, Q)), [("p", 0, turned(side)), ("q", 0, side)])
            told = [("p", 0, side), ("q", 0, turned(side)), ("r", 0, side)]
            self.assertEqual(marks(side, when(when(P, Q), R)), told)
            told = [("p", 0, turned(side)), ("q", 0, turned(side)), ("r", 0, side)]
            self.assertEqual(marks(side, when(P, when(Q, R))), told)

    def test_not_and_if_within_one_another(self):
        for side in SIDES:
            told = [("p", 0, side), ("q", 0, turned(side))]
            self.assertEqual(marks(side, neg(when(P, Q))), told)
            told = [("p", 0, side), ("q", 0, turned(side))]
            self.assertEqual(marks(side, when(neg(P), neg(Q))), told)
            told = [("p", 0, turned(side)), ("q", 0, side), ("r", 0, side)]
            self.assertEqual(marks(side, when(neg(when(P, Q)), R)), told)

    def test_and_or_all_some_leave_the_sides(self):
        for side in SIDES:
            for build in (both, either):
                self.assertEqual(marks(side, build(Q, P)), [("p", 0, side), ("q", 0, side)])
            for build in (every, some):
                self.assertEqual(marks(side, build(word("p", "0"))), [("p", 1, side)])

    def test_words_on_both_hands(self):
        for side in SIDES:
            self.assertEqual(marks(side, when(P, P)), [("p", 0, "left"), ("p", 0, "right")])
            self.assertEqual(marks(side, both(P, neg(P))), [("p", 0, "left"), ("p", 0, "right")])

    def test_sorted_each_once(self):
        A = both(either(Q, word("p", "b")), both(word("p", "a"), both(P, neg(Q))))
        told = [("p", 0, "left"), ("p", 1, "left"), ("q", 0, "left"), ("q", 0, "right")]
        self.assertEqual(marks("left", A), told)

    def test_the_other_side_turns_all(self):
        for A in up_to(2):
            left = marks("left", A)
            self.assertEqual(left, sorted(set(left)))
            self.assertEqual(marks("right", A), sorted((w, many, turned(side)) for w, many, side in left))
            self.assertEqual(sorted({(w, many) for w, many, side in left}), words_of(A))

    def test_marks_come_from_the_branches(self):
        for A in up_to(2):
            if A[0] in ("yes", "no", "word"):
                continue
            for side in SIDES:
                branches = [signed for branch in parts(side, A, "a") for signed in branch]
                told = sorted({mark for inner, B in branches for mark in marks(inner, B)})
                self.assertEqual(marks(side, A), told)

    def test_forty_parts(self):
        self.assertEqual(marks("left", nested(39, neg, P)), [("p", 0, "right")])
        self.assertEqual(marks("left", nested(38, neg, P)), [("p", 0, "left")])
        self.assertEqual(marks("right", neg(wide(20, both, P))), [("p", 0, "left")])


class AskersOwn(unittest.TestCase):
    def test_what_is_handed_in_is_unchanged(self):
        for A in list(KINDS.values()) + [when(neg(word("p", "a")), every(both(word("p", "0"), Q)))]:
            row = row_of([A], [A, neg(A)])
            before = copy.deepcopy((A, row))
            closes(row), names_in(row), more(row, [("left", neg(A))])
            for side in SIDES:
                parts(side, A, "a"), is_own(side, A), marks(side, A)
            self.assertEqual((A, row), before)

    def test_a_list_given_is_new_each_time(self):
        row = row_of([word("p", "a")], [word("q", "b")])
        asked = [(lambda: names_in(row), ["a", "b"]), (lambda: names_in(()), [])]
        asked.append((lambda: marks("left", when(P, Q)), [("p", 0, "right"), ("q", 0, "left")]))
        asked.append((lambda: marks("left", YES), []))
        asked.append((lambda: parts("left", P, ""), []))
        for ask, told in asked:
            first, second = ask(), ask()
            self.assertIs(type(first), list)
            first.append("more")
            first.reverse()
            self.assertEqual(second, told)
            self.assertEqual(ask(), told)

    def test_branches_given_are_new_each_time(self):
        for side in SIDES:
            for A in KINDS.values():
                first, second = parts(side, A, "a"), parts(side, A, "a")
                told = copy.deepcopy(second)
                for branch in first:
                    branch.clear()
                first.append([("left", R)])
                self.assertEqual(second, told)
                self.assertEqual(parts(side, A, "a"), told)


if __name__ == "__main__":
    unittest.main()
