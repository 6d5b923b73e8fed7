import copy
import inspect
import itertools
import random
import unittest

from cutless.errors import NotPlain, TooGreat
from cutless.finding import find_out
from cutless.rows import row_of
from cutless.statements import names_of, signs
from cutless.trees import cuts, fits, height, nodes
from cutless.worlds import holds
from tests.samples import NO, P, Q, R, YES, both, either, every, neg, nested, some, when, wide, word

PA = word("p", "a")
PB = word("p", "b")


def words_in(A):
    """The word statements that stand in A."""
    if A[0] == "word":
        return {A}
    return set().union(*[words_in(B) for B in A[1:]])


def so_by(words, A):
    """Whether A is so where these words are and no others."""
    if A[0] == "word":
        return A in words
    told = [so_by(words, B) for B in A[1:]]
    return {
        "yes": [True],
        "no": [False],
        "not": [not any(told)],
        "and": [all(told)],
        "or": [any(told)],
        "if": [not told[0] or told[-1]] if told else [],
    }[A[0]][0]


def fails_by(words, row):
    """Whether by these words all left statements are so and none of the right ones."""
    return all(so_by(words, A) == (side == "left") for side, A in row)


def fails_somehow(row):
    """Whether the row fails by some words."""
    words = sorted(set().union(*[words_in(A) for side, A in row]))
    chosen = itertools.product((False, True), repeat=len(words))
    return any(fails_by([A for A, is_so in zip(words, each) if is_so], row) for each in chosen)


def plain(chance, many):
    """Some statement of so many signs without all and some."""
    if many == 0:
        return chance.choice([YES, NO, P, P, Q, Q, R, PA, PB])
    kind = chance.choice(("not", "and", "or", "if"))
    if kind == "not":
        return neg(plain(chance, many - 1))
    first = chance.randrange(many)
    return (kind, plain(chance, first), plain(chance, many - 1 - first))


def plain_rows(many):
    """So many rows of at most eight signs without all and some."""
    chance = random.Random("plain")
    given = []
    while len(given) < many:
        hands = ([], [])
        for _ in range(chance.randrange(1, 6)):
            chance.choice(hands).append(plain(chance, chance.randrange(6)))
        row = row_of(*hands)
        if sum(signs(A) for side, A in row) <= 8:
            given.append(row)
    return given


class Checked(unittest.TestCase):
    def assertFound(self, row):
        told = find_out(row)
        self.assertIs(type(told), tuple)
        self.assertEqual(len(told), 2)
        self.assertIs(told[0], True, (row, told))
        self.assertIs(fits(row, told[1]), True, (row, told))
        self.assertEqual(cuts(told[1]), 0)
        self.assertLessEqual(nodes(told[1]), 600)
        self.assertLessEqual(height(told[1]), 40)

    def assertWords(self, row):
        told = find_out(row)
        self.assertIs(type(told), tuple)
        self.assertEqual(len(told), 2)
        self.assertIs(told[0], False, (row, told))
        words = told[1]
        self.assertIs(type(words), list)
        self.assertEqual(words, sorted(set(words)))
        self.assertEqual([A for A in words if A[0] != "word"], [])
        self.assertLessEqual(set(words), set().union(*[words_in(A) for side, A in row]))
        self.assertIs(fails_by(words, row), True, (row, words))

    def assertFoundOut(self, row):
        if fails_somehow(row):
            self.assertWords(row)
        else:
            self.assertFound(row)


class Interface(Checked):
    def test_the_argument_is_called_as_told(self):
        self.assertEqual(list(inspect.signature(find_out).parameters), ["row"])

    def test_a_row_of_no_statements(self):
        self.assertEqual(find_out(()), (False, []))
        self.assertEqual(find_out(row_of([], [])), (False, []))

    def test_words_that_are_settled(self):
        self.assertEqual(find_out(row_of([P], [Q])), (False, [P]))
        self.assertEqual(find_out(row_of([PB, PA, Q], [R])), (False, [PA, PB, Q]))
        self.assertEqual(find_out(row_of([], [P, either(Q, R)])), (False, []))
        self.assertEqual(find_out(row_of([neg(neg(P)), P, both(P, Q)], [])), (False, [P, Q]))
        self.assertEqual(find_out(row_of([], [neg(R), when(both(Q, P), neg(Q))])), (False, [P, Q, R]))

    def test_words_by_their_terms(self):
        self.assertEqual(find_out(row_of([PA], [PB])), (False, [PA]))
        self.assertEqual(find_out(row_of([PA], [P])), (False, [PA]))
        self.assertEqual(find_out(row_of([word("p", "a", "b")], [word("p", "b", "a")])), (False, [word("p", "a", "b")]))
        self.assertFound(row_of([PA], [PA]))


class Rows(Checked):
    def test_words_yes_and_no_alone(self):
        leaves = (YES, NO, P, Q, PA)
        for hands in itertools.product((0, 1, 2, 3), repeat=len(leaves)):
            lefts = [A for A, hand in zip(leaves, hands) if hand & 1]
            rights = [A for A, hand in zip(leaves, hands) if hand & 2]
            self.assertFoundOut(row_of(lefts, rights))

    def test_each_kind_on_each_hand(self):
        for row in (
            row_of([neg(P), P], []),
            row_of([], [neg(P), P]),
            row_of([both(P, Q)], [P]),
            row_of([both(P, Q)], [Q]),
            row_of([P, Q], [both(P, Q)]),
            row_of([either(P, Q)], [P, Q]),
            row_of([P], [either(P, Q)]),
            row_of([Q], [either(P, Q)]),
            row_of([when(P, Q), P], [Q]),
            row_of([Q], [when(P, Q)]),
            row_of([], [when(P, Q), P]),
            row_of([either(P, neg(P)), NO], []),
            row_of([either(both(P, Q), R)], [both(either(P, R), either(Q, R))]),
        ):
            self.assertFound(row)

    def test_each_kind_on_each_hand_that_fails(self):
        for row in (
            row_of([neg(P)], []),
            row_of([], [neg(P)]),
            row_of([both(P, Q)], [R]),
            row_of([P], [both(P, Q)]),
            row_of([Q], [both(P, Q)]),
            row_of([either(P, Q)], [P]),
            row_of([either(P, Q)], [Q]),
            row_of([], [either(P, Q)]),
            row_of([when(P, Q)], [Q]),
            row_of([when(P, Q)], []),
            row_of([P], [when(P, Q)]),
            row_of([when(P, Q), Q], [P]),
        ):
            self.assertWords(row)

    def test_all_rows_of_two_small_statements(self):
        leaves = (YES, NO, P, Q)
        given = list(leaves) + [neg(A) for A in leaves]
        given += [build(A, B) for build in (both, either, when) for A in leaves for B in leaves]
        for A in given:
            self.assertFoundOut(row_of([A], []))
            self.assertFoundOut(row_of([], [A]))
            for B in given:
                self.assertFoundOut(row_of([A], [B]))
                self.assertFoundOut(row_of([A, B], []))
                self.assertFoundOut(row_of([], [A, B]))

    def test_many_rows(self):
        told = []
        for row in plain_rows(1500):
            self.assertFoundOut(row)
            told.append(find_out(row)[0])
        self.assertGreater(told.count(True), 300)
        self.assertGreater(told.count(False), 300)

    def test_the_words_fail_in_a_world(self):
        for row in plain_rows(600):
            is_found, words = find_out(row)
            if is_found:
                continue
            names = sorted({name for side, A in row for name in names_of(A)})
            things = {name: at for at, name in enumerate(names)}
            facts = {}
            for _, text, terms in words:
                facts.setdefault(text, []).append(tuple(things[term] for term in terms))
            self.assertIs(holds((max(1, len(names)), things, facts), row), False)

    def test_forty_statements(self):
        words = [word(text) for text in "abcdefghijklmnopqrstuvwxyz"]
        self.assertEqual(find_out(row_of(words[:20], words[20:])), (False, words[:20]))
        self.assertFound(row_of(words[:20], words[19:]))

    def test_eight_forks(self):
        pairs = [(word(f"p{chr(97 + k)}"), word(f"q{chr(97 + k)}")) for k in range(8)]
        self.assertWords(row_of([either(A, B) for A, B in pairs], []))
        self.assertWords(row_of([], [both(A, B) for A, B in pairs]))
        self.assertFound(row_of([either(A, B) for A, B in pairs], [each for pair in pairs for each in pair][:2]))
        many = [word(text) for text in "abcdefghi"]
        chain = [when(A, B) for A, B in zip(many, many[1:])]
        self.assertFound(row_of(chain + [many[0]], [many[-1]]))
        self.assertWords(row_of(chain, [many[-1]]))
        self.assertFound(row_of([wide(8, either, P)], [P, R]))
        self.assertFound(row_of(many, [wide(9, both, P)] + [P] + many[:1]))

    def test_derivations_of_many_rules(self):
        around = [when(P, Q), when(Q, P), when(Q, R), when(R, Q)]
        self.assertFound(row_of(around, [both(when(P, R), when(R, P))]))
        self.assertWords(row_of(around[1:], [both(when(P, R), when(R, P))]))
        ring = [when(P, Q), when(Q, R), when(R, P)]
        self.assertFound(row_of(ring + [either(P, either(Q, R))], [both(P, both(Q, R))]))
        self.assertWords(row_of(ring, [both(P, both(Q, R))]))


class Refusals(unittest.TestCase):
    def test_eight_signs_and_nine(self):
        nots = [nested(k, neg, P) for k in range(10)]
        for lefts, rights in (
            ([nots[8]], []),
            ([], [nots[8]]),
            ([nots[5]], [nots[3]]),
            ([nots[4]], [nots[4]]),
            ([nots[1], nots[2], P], [nots[5], Q]),
            ([wide(9, both, P)], []),
            ([], [wide(9, either, Q), R]),
            ([wide(5, when, P), wide(5, either, R)], []),
        ):
            self.assertIn(find_out(row_of(lefts, rights))[0], (True, False))
            for added in (neg(R), both(R, R), either(Q, Q), when(Q, R)):
                with self.assertRaises(TooGreat):
                    find_out(row_of(lefts + [added], rights))
                with self.assertRaises(TooGreat):
                    find_out(row_of(lefts, rights + [added]))

    def test_nine_signs_in_one_statement(self):
        for A in (nested(9, neg, P), wide(10, both, P), wide(10, either, P), wide(10, when, P)):
            for row in (row_of([A], []), row_of([], [A]), row_of([A, P], [P])):
                with self.assertRaises(TooGreat):
                    find_out(row)

    def test_one_statement_on_both_hands_counts_twice(self):
        A = nested(5, neg, P)
        with self.assertRaises(TooGreat):
            find_out(row_of([A], [A]))

    def test_one_statement_given_twice_on_one_hand_counts_once(self):
        A = nested(5, neg, P)
        self.assertEqual(find_out(row_of([A, A], [])), (False, []))

    def test_an_all_or_some_anywhere(self):
        for A in (every(P), some(P), every(word("p", "0")), some(word("p", "0")), every(some(word("p", "1", "0")))):
            for B in (A, neg(A), both(A, P), both(P, A), either(A, P), either(P, A), when(A, P), when(P, A)):
                for C in (B, neg(neg(B)), both(neg(Q), either(Q, B))):
                    for row in (row_of([C], []), row_of([], [C]), row_of([P, C], [P]), row_of([P], [C, Q, YES])):
                        with self.assertRaises(NotPlain):
                            find_out(row)

    def test_an_all_or_some_with_more_than_eight_signs(self):
        for A in (every(nested(8, neg, P)), nested(9, neg, some(P)), nested(20, every, P)):
            for lefts, rights in (([A], []), ([], [A]), ([A], [wide(10, both, P)]), ([nested(9, neg, P)], [A])):
                with self.assertRaises(NotPlain):
                    find_out(row_of(lefts, rights))


class Unchanged(unittest.TestCase):
    def test_the_same_each_time(self):
        for row in plain_rows(200):
            kept = copy.deepcopy(row)
            first = find_out(row)
            again = find_out(copy.deepcopy(row))
            self.assertEqual(row, kept)
            self.assertEqual(first, again)

    def test_the_list_is_the_askers_own(self):
        for row in (row_of([P], [Q]), row_of([both(P, Q)], []), row_of([], [])):
            first = find_out(row)[1]
            kept = list(first)
            first.append("z")
            second = find_out(row)[1]
            self.assertEqual(second, kept)
            second.clear()
            self.assertEqual(first, kept + ["z"])
            self.assertEqual(find_out(row), (False, kept))


if __name__ == "__main__":
    unittest.main()
