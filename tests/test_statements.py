import copy
import inspect
import unittest

from cutless.statements import bound_by, names_of, put_in, renamed, signs, words_of
from tests.samples import (
    KINDS,
    NO,
    P,
    Q,
    R,
    YES,
    both,
    either,
    every,
    neg,
    nested,
    part_count,
    some,
    spelled,
    up_to,
    when,
    wide,
    word,
)


class Interface(unittest.TestCase):
    def test_the_arguments_are_called_as_told(self):
        told = [
            (signs, ["A"]),
            (names_of, ["A"]),
            (words_of, ["A"]),
            (put_in, ["body", "name"]),
            (bound_by, ["A", "name"]),
            (renamed, ["A", "old", "new"]),
        ]
        for function, names in told:
            with self.subTest(function=function.__name__):
                self.assertEqual(list(inspect.signature(function).parameters), names)


class Signs(unittest.TestCase):
    def assert_signs(self, A, many):
        self.assertEqual(signs(A), many)
        self.assertIs(type(signs(A)), int)

    def test_each_kind(self):
        for kind, A in KINDS.items():
            with self.subTest(kind=kind):
                self.assert_signs(A, 0 if kind in ("yes", "no", "word") else 1)

    def test_words_called_like_no_sign_count_nothing(self):
        for text in ("word", "nota", "andy", "ors", "ifs", "allo", "somer", "yess", "nos", "left"):
            self.assert_signs(word(text), 0)
            self.assert_signs(word(text, "a", "b", "c"), 0)

    def test_names_called_like_signs_count_nothing(self):
        self.assert_signs(word("p", "not", "and", "all"), 0)

    def test_many(self):
        self.assert_signs(when(both(P, neg(Q)), either(every(word("p", "0")), some(NO))), 6)
        self.assert_signs(neg(neg(neg(YES))), 3)

    def test_both_statements_within_count(self):
        for build in (both, either, when):
            self.assert_signs(build(neg(P), Q), 2)
            self.assert_signs(build(P, neg(neg(Q))), 3)

    def test_the_same_statement_twice_counts_twice(self):
        self.assert_signs(both(neg(P), neg(P)), 3)

    def test_forty_parts(self):
        deep = nested(39, neg, P)
        self.assertEqual(part_count(deep), 40)
        self.assert_signs(deep, 39)
        broad = neg(wide(20, either, P))
        self.assertEqual(part_count(broad), 40)
        self.assert_signs(broad, 20)

    def test_ten_all_and_some_one_within_another(self):
        self.assert_signs(nested(5, lambda A: every(some(A)), word("p", "9", "0")), 10)

    def test_somewhat_beyond_forty_parts(self):
        self.assert_signs(nested(59, neg, P), 59)

    def test_many_statements(self):
        for A in up_to(2):
            told = spelled(A).replace("(", " ").replace(")", " ").split(" ")
            many = sum(told.count(sign) for sign in ("not", "and", "or", "if", "all", "some"))
            self.assert_signs(A, many)


class Names(unittest.TestCase):
    def test_without_names(self):
        for A in (YES, NO, P, neg(P), both(YES, Q), every(word("p", "0"))):
            self.assertEqual(names_of(A), [])

    def test_sorted_each_once(self):
        A = both(word("p", "c", "a", "c"), either(word("q", "b"), neg(word("p", "a"))))
        self.assertEqual(names_of(A), ["a", "b", "c"])

    def test_of_each_kind(self):
        pa, pb = word("p", "a"), word("p", "b")
        self.assertEqual(names_of(pa), ["a"])
        self.assertEqual(names_of(neg(pa)), ["a"])
        for build in (both, either, when):
            self.assertEqual(names_of(build(pb, pa)), ["a", "b"])
        for build in (every, some):
            self.assertEqual(names_of(build(word("p", "0", "a"))), ["a"])

    def test_names_with_figures(self):
        A = word("p", "n0", "a1", "n10")
        self.assertEqual(names_of(A), ["a1", "n0", "n10"])
        self.assertEqual(names_of(word("p", "n2", "n10")), ["n10", "n2"])

    def test_names_that_differ_by_one_sign(self):
        A = both(word("p", "ab", "a", "aa"), word("p", "a0", "b", "abcdefgh"))
        self.assertEqual(names_of(A), ["a", "a0", "aa", "ab", "abcdefgh", "b"])

    def test_words_are_no_names(self):
        self.assertEqual(names_of(both(word("p", "q"), word("q", "p"))), ["p", "q"])
        self.assertEqual(names_of(word("p", "a")), ["a"])

    def test_names_called_like_kinds(self):
        self.assertEqual(names_of(word("p", "word", "not", "yes")), ["not", "word", "yes"])

    def test_places_are_no_names(self):
        A = nested(12, every, word("p", "0", "11", "10"))
        self.assertEqual(names_of(A), [])
        for place in ("0", "1", "5", "9", "10", "11", "19"):
            self.assertEqual(names_of(word("p", place, "a")), ["a"])

    def test_forty_parts(self):
        leafs = [word("p", f"n{k}", "a") for k in range(20)]
        A = leafs[0]
        for leaf in leafs[1:]:
            A = either(leaf, A)
        self.assertEqual(part_count(neg(A)), 40)
        self.assertEqual(names_of(neg(A)), sorted(["a"] + [f"n{k}" for k in range(20)]))


class Words(unittest.TestCase):
    def test_without_words(self):
        for A in (YES, NO, neg(YES), every(NO), when(YES, NO)):
            self.assertEqual(words_of(A), [])

    def test_sorted_each_once(self):
        A = both(word("q", "a"), either(word("p", "b", "c"), word("q", "b")))
        self.assertEqual(words_of(A), [("p", 2), ("q", 1)])

    def test_the_same_text_with_different_numbers_of_terms(self):
        A = when(both(word("p", "a", "b", "c"), P), either(word("p", "a"), word("p", "a", "b")))
        self.assertEqual(words_of(A), [("p", 0), ("p", 1), ("p", 2), ("p", 3)])

    def test_without_terms(self):
        self.assertEqual(words_of(P), [("p", 0)])

    def test_words_that_differ_by_one_sign(self):
        A = both(word("ab"), both(word("a"), both(word("aa"), word("abcdefgh"))))
        self.assertEqual(words_of(A), [("a", 0), ("aa", 0), ("ab", 0), ("abcdefgh", 0)])

    def test_of_each_kind(self):
        self.assertEqual(words_of(neg(P)), [("p", 0)])
        for build in (both, either, when):
            self.assertEqual(words_of(build(Q, P)), [("p", 0), ("q", 0)])
        for build in (every, some):
            self.assertEqual(words_of(build(word("p", "0", "a"))), [("p", 2)])

    def test_the_word_called_word(self):
        self.assertEqual(words_of(word("word", "word")), [("word", 1)])

    def test_the_numbers_are_whole_numbers(self):
        for text, many in words_of(both(P, word("q", "a"))):
            self.assertIs(type(many), int)

    def test_ten_all_and_some(self):
        self.assertEqual(words_of(nested(10, some, word("p", "9", "3", "0"))), [("p", 3)])


class PutIn(unittest.TestCase):
    def test_the_place_outside_of_all_and_some_is_0(self):
        self.assertEqual(put_in(word("p", "0"), "a"), word("p", "a"))
        self.assertEqual(put_in(word("p", "0", "b", "0"), "a"), word("p", "a", "b", "a"))

    def test_the_place_within_one_all_or_some_is_1(self):
        for build in (every, some):
            body = build(word("p", "1", "0"))
            self.assertEqual(put_in(body, "a"), build(word("p", "a", "0")))

    def test_the_place_within_two_is_2(self):
        body = every(some(word("p", "2", "1", "0")))
        self.assertEqual(put_in(body, "a"), every(some(word("p", "a", "1", "0"))))

    def test_the_document_s_own(self):
        self.assertEqual(put_in(some(word("p", "1", "0", "a")), "b"), some(word("p", "b", "0", "a")))

    def test_at_different_depths_at_once(self):
        body = both(word("p", "0"), when(every(word("p", "1")), some(every(word("p", "2", "1", "0")))))
        told = both(word("p", "a"), when(every(word("p", "a")), some(every(word("p", "a", "1", "0")))))
        self.assertEqual(put_in(body, "a"), told)

    def test_a_depth_ends_with_its_all_or_some(self):
        body = either(every(word("p", "1", "0")), word("p", "0"))
        self.assertEqual(put_in(body, "a"), either(every(word("p", "a", "0")), word("p", "a")))

    def test_other_places_stay(self):
        self.assertEqual(put_in(word("p", "1", "0", "2"), "a"), word("p", "1", "a", "2"))
        self.assertEqual(put_in(every(word("p", "0", "1", "2")), "a"), every(word("p", "0", "a", "2")))

    def test_not_and_or_if_leave_the_depth(self):
        for build in (both, either, when):
            self.assertEqual(put_in(build(word("p", "0"), word("q", "0")), "a"), build(word("p", "a"), word("q", "a")))
        self.assertEqual(put_in(neg(word("p", "0")), "a"), neg(word("p", "a")))

    def test_a_body_without_the_place(self):
        for body in (YES, NO, P, word("p", "b"), neg(Q), every(word("p", "0"))):
            self.assertEqual(put_in(body, "a"), body)

    def test_a_name_that_is_already_in_it(self):
        self.assertEqual(put_in(word("p", "0", "a"), "a"), word("p", "a", "a"))

    def test_names_with_figures(self):
        self.assertEqual(put_in(word("p", "0", "n0"), "n1"), word("p", "n1", "n0"))

    def test_places_of_two_figures(self):
        body = nested(10, every, word("p", "10", "1", "0"))
        self.assertEqual(put_in(body, "a"), nested(10, every, word("p", "a", "1", "0")))

    def test_a_word_is_no_place(self):
        self.assertEqual(put_in(both(word("a"), word("p", "0")), "a"), both(word("a"), word("p", "a")))

    def test_many_bodies(self):
        for body in up_to(2, depth=1):
            for name in ("a", "c", "n0"):
                self.assertEqual(spelled(put_in(body, name)), spelled(body, (name,)))


class BoundBy(unittest.TestCase):
    def test_the_places_by_depth(self):
        self.assertEqual(bound_by(word("p", "a", "b"), "a"), word("p", "0", "b"))
        A = every(some(both(word("p", "a", "0", "1"), Q)))
        self.assertEqual(bound_by(A, "a"), every(some(both(word("p", "2", "0", "1"), Q))))

    def test_not_and_or_if_leave_the_depth(self):
        pa, p0 = word("p", "a"), word("p", "0")
        self.assertEqual(bound_by(neg(pa), "a"), neg(p0))
        for build in (both, either, when):
            self.assertEqual(bound_by(build(pa, some(pa)), "a"), build(p0, some(word("p", "1"))))

    def test_a_name_nowhere_in_it(self):
        for A in list(KINDS.values()) + [word("p", "ab", "a0")]:
            self.assertEqual(bound_by(A, "c"), A)
        self.assertEqual(bound_by(word("p", "ab", "a0"), "a"), word("p", "ab", "a0"))

    def test_the_word_called_like_the_name_stays(self):
        self.assertEqual(bound_by(word("a", "a"), "a"), word("a", "0"))

    def test_ten_all_and_some(self):
        A = nested(10, some, word("p", "a", "9", "0"))
        self.assertEqual(bound_by(A, "a"), nested(10, some, word("p", "10", "9", "0")))
        self.assertEqual(put_in(bound_by(A, "a"), "a"), A)

    def test_many_statements_come_back_and_the_body_is_without_the_name(self):
        for A in up_to(2):
            for name in ("a", "b", "n0", "c"):
                body = bound_by(A, name)
                self.assertEqual(put_in(body, name), A)
                self.assertNotIn(name, names_of(body))
                self.assertEqual(spelled(body, (name,)), spelled(A))
                rest = [other for other in names_of(A) if other != name]
                self.assertEqual(names_of(body), rest)

    def test_forty_parts(self):
        A = neg(wide(20, both, word("p", "a", "b")))
        self.assertEqual(bound_by(A, "a"), neg(wide(20, both, word("p", "0", "b"))))
        deep = nested(39, neg, word("p", "a"))
        self.assertEqual(bound_by(deep, "a"), nested(39, neg, word("p", "0")))


class Renamed(unittest.TestCase):
    def test_wherever_it_stood(self):
        A = both(word("p", "a", "b", "a"), every(neg(word("q", "0", "a"))))
        told = both(word("p", "c", "b", "c"), every(neg(word("q", "0", "c"))))
        self.assertEqual(renamed(A, "a", "c"), told)

    def test_of_each_kind(self):
        pa, pc = word("p", "a"), word("p", "c")
        self.assertEqual(renamed(pa, "a", "c"), pc)
        for build in (neg, every, some):
            self.assertEqual(renamed(build(pa), "a", "c"), build(pc))
        for build in (both, either, when):
            self.assertEqual(renamed(build(pa, Q), "a", "c"), build(pc, Q))
            self.assertEqual(renamed(build(Q, pa), "a", "c"), build(Q, pc))
        for A in (YES, NO, P):
            self.assertEqual(renamed(A, "a", "c"), A)

    def test_to_one_that_is_there_already(self):
        self.assertEqual(renamed(word("p", "a", "b"), "a", "b"), word("p", "b", "b"))

    def test_to_the_same_one(self):
        for A in up_to(1):
            self.assertEqual(renamed(A, "a", "a"), A)

    def test_from_one_that_is_nowhere_in_it(self):
        for A in up_to(1):
            self.assertEqual(renamed(A, "c", "d"), A)

    def test_names_that_differ_by_one_sign_stay(self):
        self.assertEqual(renamed(word("p", "a", "ab", "a0"), "a", "c"), word("p", "c", "ab", "a0"))

    def test_words_called_like_the_name_stay(self):
        self.assertEqual(renamed(both(word("a"), word("a", "a")), "a", "c"), both(word("a"), word("a", "c")))

    def test_places_stay(self):
        A = nested(11, every, word("p", "10", "0", "n0"))
        self.assertEqual(renamed(A, "n0", "n1"), nested(11, every, word("p", "10", "0", "n1")))

    def test_many_there_and_back(self):
        for A in up_to(2):
            there = renamed(A, "a", "zz9")
            self.assertNotIn("a", names_of(there))
            self.assertEqual(renamed(there, "zz9", "a"), A)
            self.assertEqual(signs(there), signs(A))
            self.assertEqual(words_of(there), words_of(A))


class AskersOwn(unittest.TestCase):
    def test_what_is_handed_in_is_unchanged(self):
        for A in up_to(1) + [both(R, every(word("p", "0", "a")))]:
            before = copy.deepcopy(A)
            signs(A), names_of(A), words_of(A)
            put_in(A, "a"), bound_by(A, "a"), renamed(A, "a", "b")
            self.assertEqual(A, before)

    def test_a_list_given_is_new_each_time(self):
        A = both(word("p", "a"), every(word("q", "0", "b")))
        for function, told in ((names_of, ["a", "b"]), (words_of, [("p", 1), ("q", 2)])):
            with self.subTest(function=function.__name__):
                first = function(A)
                self.assertIs(type(first), list)
                second = function(A)
                function(word("z", "z"))
                self.assertEqual(first, told)
                first.append("more")
                del first[0]
                self.assertEqual(second, told)
                self.assertEqual(function(A), told)

    def test_an_empty_list_given_is_new_each_time(self):
        for function in (names_of, words_of):
            function(YES).append("more")
            self.assertEqual(function(YES), [])

    def test_statements_given_are_tuples_throughout(self):
        body = both(word("p", "0", "a"), every(neg(word("q", "1"))))
        for given in (put_in(body, "b"), bound_by(put_in(body, "b"), "b"), renamed(body, "a", "c")):
            self.assertIs(type(given), tuple)
            self.assertIs(type(given[1]), tuple)
            self.assertIs(type(given[1][2]), tuple)
            self.assertIs(type(given[2][1][1][2]), tuple)


if __name__ == "__main__":
    unittest.main()
