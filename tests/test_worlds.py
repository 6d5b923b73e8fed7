import copy
import inspect
import itertools
import random
import unittest

from cutless.rows import row_of
from cutless.statements import put_in
from cutless.worlds import holds, so
from tests.samples import (
    KINDS,
    NO,
    P,
    Q,
    R,
    YES,
    both,
    chosen,
    either,
    every,
    neg,
    nested,
    some,
    some_world,
    up_to,
    when,
    word,
)

ALONE = (1, {}, {"p": [()]})
# The things 0 to 3, each of which is less than those behind it.
FOUR = (4, {"a": 0, "b": 3}, {"less": [(k, m) for k in range(4) for m in range(k + 1, 4)], "even": [(0,), (2,)]})


def less(one, other):
    return word("less", one, other)


def put_so(world, A):
    """Whether A is so, its all and some told by names for each of the things."""
    many, things, facts = world
    kind = A[0]
    if kind in ("all", "some"):
        named = (many, {**things, **{f"thing{k}": k for k in range(many)}}, facts)
        told = [put_so(named, put_in(A[1], f"thing{k}")) for k in range(many)]
        return all(told) if kind == "all" else any(told)
    if kind == "word":
        return tuple(things[name] for name in A[2]) in facts.get(A[1], [])
    told = [put_so(world, B) for B in A[1:]]
    by_kind = {
        "yes": lambda: True,
        "no": lambda: False,
        "not": lambda: not told[0],
        "and": lambda: told[0] and told[1],
        "or": lambda: told[0] or told[1],
        "if": lambda: told[1] if told[0] else True,
    }
    return by_kind[kind]()


class Interface(unittest.TestCase):
    def test_the_arguments_are_called_as_told(self):
        self.assertEqual(list(inspect.signature(so).parameters), ["world", "A"])
        self.assertEqual(list(inspect.signature(holds).parameters), ["world", "row"])

    def test_true_or_false_itself(self):
        for many in (1, 2, 3, 4):
            for facts in ({}, {"p": [(), (0,)], "q": [()]}):
                world = (many, {"a": 0}, facts)
                for A in KINDS.values():
                    for B in (A, neg(A), both(A, A), either(A, A), when(A, A), every(A), some(A)):
                        self.assertIn(so(world, B), (True, False))
                        self.assertIs(type(so(world, B)), bool)
                        self.assertIs(type(holds(world, row_of([B], []))), bool)
                        self.assertIs(type(holds(world, row_of([], [B]))), bool)
        self.assertIs(type(holds(ALONE, ())), bool)


class Kinds(unittest.TestCase):
    def assertSo(self, world, statements):
        for A in statements:
            self.assertIs(so(world, A), True, A)
            self.assertIs(so(world, neg(A)), False, A)

    def assertNotSo(self, world, statements):
        for A in statements:
            self.assertIs(so(world, A), False, A)
            self.assertIs(so(world, neg(A)), True, A)

    def test_yes_and_no(self):
        self.assertSo(ALONE, [YES])
        self.assertNotSo(ALONE, [NO])
        # A fact of such a text would change nothing: they are no words.
        self.assertNotSo((1, {}, {"no": [()]}), [NO])

    def test_not(self):
        self.assertSo(ALONE, [neg(Q), neg(neg(P)), neg(NO)])
        self.assertNotSo(ALONE, [neg(P), neg(neg(Q)), neg(YES)])

    def test_and(self):
        self.assertSo(ALONE, [both(P, P), both(YES, P)])
        self.assertNotSo(ALONE, [both(P, Q), both(Q, P), both(Q, Q), both(P, NO)])

    def test_or(self):
        self.assertSo(ALONE, [either(P, P), either(P, Q), either(Q, P)])
        self.assertNotSo(ALONE, [either(Q, Q), either(NO, R)])

    def test_if(self):
        self.assertSo(ALONE, [when(P, P), when(Q, P), when(Q, Q), when(NO, Q)])
        self.assertNotSo(ALONE, [when(P, Q), when(YES, Q)])

    def test_all(self):
        self.assertSo(FOUR, [every(neg(less("0", "0"))), every(either(word("even", "0"), neg(word("even", "0"))))])
        self.assertNotSo(FOUR, [every(word("even", "0")), every(less("a", "0")), every(NO)])

    def test_some(self):
        self.assertSo(FOUR, [some(word("even", "0")), some(less("a", "0")), some(neg(word("even", "0"))), some(YES)])
        self.assertNotSo(FOUR, [some(less("0", "0")), some(less("b", "0")), some(less("0", "a"))])

    def test_each_single_thing_counts(self):
        for many in (1, 2, 3, 4):
            for chosen_thing in range(many):
                one = (many, {}, {"p": [(chosen_thing,)]})
                others = (many, {}, {"p": [(k,) for k in range(many) if k != chosen_thing]})
                self.assertIs(so(one, some(word("p", "0"))), True)
                self.assertIs(so(one, every(word("p", "0"))), many == 1)
                self.assertIs(so(others, every(word("p", "0"))), False)
                self.assertIs(so(others, some(word("p", "0"))), many > 1)

    def test_facts_of_things_beyond_the_world_do_not_count(self):
        world = (2, {}, {"p": [(2,), (3,)]})
        self.assertNotSo(world, [some(word("p", "0"))])


class Words(unittest.TestCase):
    def test_without_terms(self):
        self.assertIs(so((1, {}, {"p": [()]}), P), True)
        for facts in ({}, {"p": []}, {"q": [()]}, {"p": [(0,)]}):
            self.assertIs(so((1, {}, facts), P), False, facts)

    def test_one_term(self):
        world = (3, {"a": 0, "b": 2}, {"p": [(2,), ()]})
        self.assertIs(so(world, word("p", "a")), False)
        self.assertIs(so(world, word("p", "b")), True)

    def test_two_and_three_terms_in_their_order(self):
        world = (3, {"a": 0, "b": 1, "c": 2}, {"p": [(0, 1), (2, 1, 0), (1, 1, 1)]})
        told = {("a", "b"), ("c", "b", "a"), ("b", "b", "b")}
        for many in (2, 3):
            for terms in itertools.product("abc", repeat=many):
                self.assertIs(so(world, word("p", *terms)), terms in told, terms)

    def test_one_text_with_different_numbers_of_terms(self):
        for many in range(4):
            world = (2, {"a": 1}, {"p": [(1,) * many]})
            for terms in range(4):
                self.assertIs(so(world, word("p", *["a"] * terms)), terms == many)

    def test_two_names_of_one_thing(self):
        world = (2, {"a": 1, "b": 1}, {"p": [(1,)]})
        self.assertIs(so(world, word("p", "a")), True)
        self.assertIs(so(world, word("p", "b")), True)

    def test_a_text_that_is_not_in_the_facts(self):
        for terms in ((), ("a",), ("a", "a"), ("a", "a", "a")):
            self.assertIs(so((4, {"a": 2}, {"q": [(2,) * len(terms)]}), word("p", *terms)), False)
            self.assertIs(so((4, {"a": 2}, {}), word("p", *terms)), False)

    def test_names_and_places_in_one_word(self):
        world = (3, {"a": 2}, {"p": [(0, 2, 1)]})
        self.assertIs(so(world, some(some(word("p", "1", "a", "0")))), True)
        self.assertIs(so(world, some(every(word("p", "1", "a", "0")))), False)
        self.assertIs(so(world, some(some(word("p", "0", "a", "a")))), False)

    def test_a_name_that_is_called_like_a_place_with_a_letter(self):
        world = (2, {"n0": 1, "n1": 0}, {"p": [(1,)]})
        self.assertIs(so(world, every(word("p", "n0"))), True)
        self.assertIs(so(world, some(word("p", "n1"))), False)


class Nested(unittest.TestCase):
    def test_the_nearest_is_0(self):
        # Each thing but the last has one that it is less than.
        self.assertIs(so(FOUR, every(some(less("1", "0")))), False)
        self.assertIs(so(FOUR, every(either(less("0", "b"), neg(less("0", "b"))))), True)
        self.assertIs(so(FOUR, some(every(neg(less("0", "1"))))), True)
        self.assertIs(so(FOUR, some(every(less("1", "0")))), False)
        self.assertIs(so(FOUR, some(every(neg(less("1", "0"))))), True)
        ring = (3, {}, {"next": [(0, 1), (1, 2), (2, 0)]})
        self.assertIs(so(ring, every(some(word("next", "1", "0")))), True)
        self.assertIs(so(ring, some(every(word("next", "0", "1")))), False)

    def test_which_of_the_two_stands_first(self):
        lone = (2, {}, {"p": [(0, 0), (0, 1)]})
        self.assertIs(so(lone, some(every(word("p", "1", "0")))), True)
        self.assertIs(so(lone, some(every(word("p", "0", "1")))), False)
        self.assertIs(so(lone, every(some(word("p", "1", "0")))), False)
        self.assertIs(so(lone, every(some(word("p", "0", "1")))), True)

    def test_places_of_a_nearer_and_of_a_farther_one(self):
        # The farthest some is thing 3, the next one 1, the nearest one 2.
        world = (4, {}, {"three": [(3,)], "one": [(1,)], "two": [(2,)], "p": [(3, 1, 2)]})
        pinned = both(both(word("three", "2"), word("one", "1")), word("two", "0"))
        for terms in itertools.product(("0", "1", "2"), repeat=3):
            A = nested(3, some, both(pinned, word("p", *terms)))
            self.assertIs(so(world, A), terms == ("2", "1", "0"), terms)

    def test_behind_an_inner_one_the_outer_ones_place_is_as_before(self):
        world = (2, {}, {"p": [(0,)], "q": [(1,)]})
        A = some(both(some(word("q", "0")), word("p", "0")))
        self.assertIs(so(world, A), True)
        self.assertIs(so(world, some(both(every(word("p", "1")), some(word("q", "0"))))), True)
        self.assertIs(so(world, some(both(word("q", "0"), every(word("p", "1"))))), False)

    def test_a_place_of_a_farther_one_alone(self):
        for build in (every, some, lambda A: neg(every(A)), lambda A: every(some(neg(A)))):
            for many in (1, 2, 3, 4):
                for thing in range(many):
                    world = (many, {}, {"p": [(thing,)]})
                    for kind in (every, some):
                        for place in ("0", "1", "2"):
                            A = nested(3, kind, neg(word("p", place)))
                            self.assertIs(so(world, A), put_so(world, A))
                            B = kind(build(kind(build(both(word("p", place), YES)))))
                            self.assertIs(so(world, B), put_so(world, B))

    def test_ten_one_within_another_in_four_things(self):
        equal = (4, {}, {"same": [(k, k) for k in range(4)], "p": [(1, 2, 3)]})
        self.assertIs(so(equal, nested(10, every, either(word("same", "9", "0"), YES))), True)
        self.assertIs(so(equal, nested(10, some, neg(either(word("same", "9", "0"), YES)))), False)
        self.assertIs(so(equal, nested(10, some, word("p", "9", "5", "0"))), True)
        self.assertIs(so(equal, nested(10, some, both(word("p", "9", "5", "0"), word("same", "9", "0")))), False)
        self.assertIs(so(equal, every(nested(9, some, word("same", "9", "4")))), True)

    def test_ten_one_within_another(self):
        equal = (2, {}, {"same": [(0, 0), (1, 1)]})
        self.assertIs(so(equal, nested(10, some, word("same", "9", "0"))), True)
        self.assertIs(so(equal, nested(10, every, word("same", "9", "0"))), False)
        self.assertIs(so(equal, every(nested(9, some, word("same", "9", "0")))), True)
        self.assertIs(so(equal, some(nested(9, every, word("same", "9", "0")))), False)

    def test_forty_parts(self):
        self.assertIs(so(ALONE, nested(39, neg, P)), False)
        self.assertIs(so(ALONE, nested(38, neg, P)), True)

    def test_by_names_for_each_thing(self):
        chance = random.Random("worlds")
        seen = set()
        for A in up_to(0) * 10 + up_to(2) + [chosen(chance, chance.randrange(3, 7)) for _ in range(300)]:
            for many in (1, 2, 3, 4):
                world = some_world(chance, many, [A])
                told = so(world, A)
                self.assertIs(told, put_so(world, A), (world, A))
                seen.add((A[0], many, told))
        for kind in KINDS:
            for many in (1, 2, 3, 4):
                for told in (True, False):
                    if (kind, told) not in (("yes", False), ("no", True)):
                        self.assertIn((kind, many, told), seen)


class Holds(unittest.TestCase):
    def test_a_left_one_that_is_not_so(self):
        for row in (row_of([Q], []), row_of([P, Q], []), row_of([P, Q], [R]), row_of([Q, P, YES], [Q, NO])):
            self.assertIs(holds(ALONE, row), True, row)

    def test_a_right_one_that_is_so(self):
        for row in (row_of([], [P]), row_of([], [P, Q]), row_of([P], [Q, YES]), row_of([P, YES], [R, P])):
            self.assertIs(holds(ALONE, row), True, row)

    def test_neither(self):
        for row in (row_of([P], []), row_of([], [Q]), row_of([P, YES], [Q, R, NO]), row_of([P], [every(NO)])):
            self.assertIs(holds(ALONE, row), False, row)

    def test_a_row_of_no_statements(self):
        self.assertIs(holds(ALONE, ()), False)
        self.assertIs(holds(FOUR, row_of([], [])), False)

    def test_rows_with_all_and_some(self):
        self.assertIs(holds(FOUR, row_of([every(word("even", "0"))], [word("even", "b")])), True)
        self.assertIs(holds(FOUR, row_of([some(word("even", "0"))], [every(word("even", "0"))])), False)
        self.assertIs(holds(FOUR, row_of([word("even", "a")], [some(word("even", "0"))])), True)

    def test_forty_statements(self):
        lefts = [nested(2 * k, neg, P) for k in range(20)]
        rights = [neg(A) for A in lefts]
        world = (1, {}, {"p": [()]})
        self.assertIs(holds(world, row_of(lefts, rights)), False)
        self.assertIs(holds(world, row_of(lefts, rights[1:] + [P])), True)

    def test_over_many_rows(self):
        chance = random.Random("rows")
        for _ in range(300):
            lefts = [chosen(chance, chance.randrange(3)) for _ in range(chance.randrange(3))]
            rights = [chosen(chance, chance.randrange(3)) for _ in range(chance.randrange(3))]
            world = some_world(chance, chance.randrange(1, 5), lefts + rights)
            told = any(not put_so(world, A) for A in lefts) or any(put_so(world, A) for A in rights)
            self.assertIs(holds(world, row_of(lefts, rights)), told)


class Unchanged(unittest.TestCase):
    def test_the_world_stays_as_it_was(self):
        chance = random.Random("unchanged")
        for _ in range(100):
            A = chosen(chance, chance.randrange(5))
            world = some_world(chance, chance.randrange(1, 5), [A])
            row = row_of([A], [neg(A)])
            kept = copy.deepcopy((world, A, row))
            first = so(world, A), holds(world, row)
            self.assertEqual((world, A, row), kept)
            self.assertEqual((so(world, A), holds(world, row)), first)

    def test_a_text_that_is_not_in_the_facts_is_not_put_there(self):
        things, facts = {"a": 0}, {}
        so((1, things, facts), word("p", "a"))
        holds((1, things, facts), row_of([word("p", "a")], [some(word("q", "0"))]))
        self.assertEqual((things, facts), ({"a": 0}, {}))

    def test_a_world_that_is_changed_is_asked_anew(self):
        facts = {"p": []}
        world = (1, {}, facts)
        self.assertIs(so(world, P), False)
        facts["p"].append(())
        self.assertIs(so(world, P), True)


if __name__ == "__main__":
    unittest.main()
