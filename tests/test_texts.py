import copy
import inspect
import random
import unittest

from cutless.errors import NoText
from cutless.rows import row_of
from cutless.texts import read_proof, read_row, read_statement, shown, shown_proof, shown_row
from cutless.trees import fits, height, nodes
from tests.samples import (
    BASE,
    CLOSE,
    NO,
    P,
    Q,
    R,
    YES,
    based,
    both,
    bush,
    carried_cuts,
    chosen,
    cut,
    either,
    every,
    left,
    neg,
    nested,
    part_count,
    right,
    some,
    sought_derivations,
    up_to,
    when,
    wide,
    word,
)

NO_TEXTS = (None, True, False, 0, 5, b"p", b"yes", ["p"], ("p",), ("yes",), {"p": 1}, {"yes"}, (), [], object(), str)

# Statements with the text that each is told as.
STATEMENTS = (
    ("yes", YES),
    ("no", NO),
    ("p", P),
    ("p(a)", word("p", "a")),
    ("p(a,b)", word("p", "a", "b")),
    ("p(b,a,a)", word("p", "b", "a", "a")),
    ("abcdefgh(abcdefgh,a1234567,z0)", word("abcdefgh", "abcdefgh", "a1234567", "z0")),
    ("not p", neg(P)),
    ("not not yes", neg(neg(YES))),
    ("and p q", both(P, Q)),
    ("or p no", either(P, NO)),
    ("if p q", when(P, Q)),
    ("and and p q r", both(both(P, Q), R)),
    ("and p and q r", both(P, both(Q, R))),
    ("if or p q not r", when(either(P, Q), neg(R))),
    ("or if p q and q r", either(when(P, Q), both(Q, R))),
    ("all A p", every(P)),
    ("all A p(A)", every(word("p", "0"))),
    ("some A p(A)", some(word("p", "0"))),
    ("all A if p(A) not q", every(when(word("p", "0"), neg(Q)))),
    ("all A some B p(A,B,a)", every(some(word("p", "1", "0", "a")))),
    ("some A all B p(B,A)", some(every(word("p", "0", "1")))),
    ("some A some B all C p(C,A,B)", some(some(every(word("p", "0", "2", "1"))))),
    ("and all A p(A) some A q(A)", both(every(word("p", "0")), some(word("q", "0")))),
    ("all A and all B p(B,A) q(A)", every(both(every(word("p", "0", "1")), word("q", "0")))),
    ("all A and q(A) all B p(B,A)", every(both(word("q", "0"), every(word("p", "0", "1"))))),
    ("not all A not some B if p(A) yes", neg(every(neg(some(when(word("p", "1"), YES)))))),
)

OTHER_SIGNS = (
    "\u00e9", "\u00df", "\u0430", "\u03b1", "\uff50", "\u4e2d", "\u00aa", "\u0660", "\u00b2", "\uff11", "\u0967",
    "\u00c4", "\u0391", "\uff21", "-", "_", ".", "'", "*", "=", ">", "\x00", "\u00a0", "\u2003", "\u200b", "\ud800",
)


class Refused(unittest.TestCase):
    def assertNoText(self, read, text):
        with self.assertRaises(NoText, msg=repr(text)[:200]):
            read(text)


class Interface(unittest.TestCase):
    def test_the_arguments_are_called_as_told(self):
        for function, told in (
            (read_statement, ["text"]),
            (read_row, ["text"]),
            (read_proof, ["text"]),
            (shown, ["A"]),
            (shown_row, ["row"]),
            (shown_proof, ["row", "tree"]),
        ):
            self.assertEqual(list(inspect.signature(function).parameters), told)

    def test_what_is_no_text(self):
        for read in (read_statement, read_row, read_proof):
            for each in NO_TEXTS:
                with self.assertRaises(NoText, msg=(read, each)):
                    read(each)

    def test_kinds(self):
        self.assertIs(type(read_statement("and p(a) q")), tuple)
        self.assertIs(type(read_statement("p(a)")[2]), tuple)
        self.assertIs(type(read_row("p => q")), tuple)
        told = read_proof("p => p; close")
        self.assertIs(type(told), tuple)
        self.assertEqual(len(told), 2)
        for each in (shown(P), shown_row(row_of([P], [])), shown_proof(row_of([P], [P]), CLOSE)):
            self.assertIs(type(each), str)


class Statements(Refused):
    def test_each_is_read_and_told(self):
        for text, A in STATEMENTS:
            self.assertEqual(read_statement(text), A)
            self.assertEqual(shown(A), text)

    def test_what_is_shown_is_read_to_the_statement_again(self):
        chance = random.Random("statements")
        given = up_to(2) + [chosen(chance, chance.randrange(3, 12)) for _ in range(500)]
        for A in given:
            self.assertEqual(read_statement(shown(A)), A)

    def test_any_capital_letter(self):
        for letter in "ABCDEFGHIJKLMNOPQRSTUVWXYZ":
            self.assertEqual(read_statement(f"all {letter} p({letter})"), every(word("p", "0")))
            self.assertEqual(read_statement(f"some {letter} p(a,{letter})"), some(word("p", "a", "0")))
        self.assertEqual(read_statement("all X if p(X) not q"), every(when(word("p", "0"), neg(Q))))
        self.assertEqual(read_statement("all Y some X p(Y,X)"), every(some(word("p", "1", "0"))))
        self.assertEqual(read_statement("all X some Y p(Y,X)"), every(some(word("p", "0", "1"))))

    def test_one_letter_twice_is_the_nearest(self):
        inner = some(word("p", "0"))
        self.assertEqual(read_statement("all X some X p(X)"), every(inner))
        self.assertEqual(read_statement("all X and some X p(X) q(X)"), every(both(inner, word("q", "0"))))
        self.assertEqual(read_statement("all X and q(X) some X p(X)"), every(both(word("q", "0"), inner)))
        told = every(some(every(word("p", "0", "1", "0"))))
        self.assertEqual(read_statement("all X some Y all X p(X,Y,X)"), told)
        self.assertEqual(shown(told), "all A some B all C p(C,B,C)")
        self.assertEqual(read_statement("all X some Y some Y p(X,Y)"), every(some(some(word("p", "2", "0")))))

    def test_a_letter_that_none_around_has(self):
        for text in (
            "p(X)",
            "all X p(Y)",
            "all X p(X,Y)",
            "and all X p(X) q(X)",
            "or some X p(X) all Y q(X)",
            "if p(X) all X p(X)",
            "not p(A)",
            "all X and some Y p(Y) q(Y)",
        ):
            self.assertNoText(read_statement, text)

    def test_an_all_or_some_without_a_capital_letter(self):
        for kind in ("all", "some"):
            for text in (
                "", " ", " X", " p", " p(X)", " x p(x)", " x p", " XY p", " X, p", " 0 p(0)", " 1 p", " X X p",
                "  p", "  X p", " X  p", "X p", " X yes p", " X p q", " X all p", " \u00c4 p", " \u0391 p",
                " \uff21 p", " @ p", " [ p", " ABC p", " AB p(AB)", "(X) p(X)", " X(a) p",
            ):
                self.assertNoText(read_statement, kind + text)

    def test_terms(self):
        for many in range(1, 4):
            terms = ["a", "n0", "x9y"][:many]
            self.assertEqual(read_statement(f"q({','.join(terms)})"), word("q", *terms))
        for text in ("p(a,b,c,d)", "p(a,a,a,a)", "all X p(X,X,X,X)", "p(a,b,c,d,e)"):
            self.assertNoText(read_statement, text)

    def test_brackets_and_commas_that_are_wrong(self):
        for text in (
            "p()", "p(", "p)", "p(a", "p(ab", "p(a,bc", "p(a]", "p(a(", "pa)", "(a)", "()", "(", ")", "p(a,)",
            "p(,a)", "p(,)", "p(a,,b)",
            "p(a)(b)", "p(a))", "p((a)", "p((a))", "p(a)q", "p[a]", "p(a;b)", "p(a.b)", "p,q", "p,", ",p", ",",
            "p(a),", "p(a b)", "p(a, b)", "p (a)", "p( a)", "p(a )", "p(q(a))", "p(a)()", "p()(a)",
        ):
            self.assertNoText(read_statement, text)

    def test_names(self):
        for name in ("a", "z", "ab", "abcdefgh", "a0", "z9", "n0", "a1234567", "yes", "no", "all", "some", "not", "by"):
            self.assertEqual(read_statement(f"p({name})"), word("p", name))
            self.assertEqual(shown(word("p", name)), f"p({name})")
        for name in ("0", "1", "12", "0a", "1n", "abcdefghi", "a12345678", "A0", "aB", "Ab", "AB", "n_0", "n-0", "a'"):
            self.assertNoText(read_statement, f"p({name})")
            self.assertNoText(read_statement, f"all A all B p({name})")
            self.assertNoText(read_statement, f"p(a,{name})")

    def test_words(self):
        for text in (
            "a", "z", "ab", "abcdefgh", "zzzzzzzz", "close", "cut", "left", "right", "by", "word", "yess",
            "nota", "al", "an", "ifs", "n", "so",
        ):
            self.assertEqual(read_statement(text), word(text))
            self.assertEqual(read_statement(f"not {text}(a)"), neg(word(text, "a")))
        for many in range(1, 9):
            self.assertEqual(read_statement("w" * many), word("w" * many))
        for text in (
            "w" * 9, "w" * 10, "abcdefghi", "p1", "p0q", "1", "0", "10", "P", "Pq", "pQ", "X", "p_q", "p-q", "-", "=>",
            "p=>q", ";", "p;", "p!",
        ):
            self.assertNoText(read_statement, text)
            self.assertNoText(read_statement, f"{text}(a)")
            self.assertNoText(read_statement, f"not {text}")

    def test_words_that_are_kept_for_kinds(self):
        for text in ("yes", "no", "not", "and", "or", "if", "all", "some"):
            for form in (f"{text}(a)", f"{text}()", f"not {text}(a)", f"and {text}(a) p", f"all X {text}(X)"):
                self.assertNoText(read_statement, form)
        for text in ("not", "and", "or", "if", "all", "some"):
            for form in (text, f"not {text}", f"and p {text}", f"all X {text}"):
                self.assertNoText(read_statement, form)
        for text in ("Yes", "NO", "Not p", "AND p q", "All X p", "nots p", "ands p q"):
            self.assertNoText(read_statement, text)

    def test_too_few_and_too_many(self):
        for text in (
            "not", "and", "and p", "or p", "if p", "and and p q", "if p and q", "not and p", "p q", "yes no",
            "not p q", "and p q r", "yes p", "no no", "all X", "all X p q", "p not", "p and q", "p p",
        ):
            self.assertNoText(read_statement, text)

    def test_blanks(self):
        for text in (
            "", " ", "  ", " p", "p ", "not  p", " not p", "not p ", "and p  q", "and  p q", "all  X p",
            "all X  p", "\t", "\n", "p\n", "\np", "p\t", "\tp", "not\tp", "not\np", "and p\tq", "not p\n",
            "p\r", "p\r\n", "not\u00a0p", "not\u2003p", "p\x0b", "p\x0c", "all\tX p", "all X\np",
        ):
            self.assertNoText(read_statement, text)

    def test_signs_of_other_scripts(self):
        for sign in OTHER_SIGNS:
            for text in (sign, f"p{sign}", f"{sign}p", f"p({sign})", f"p(a{sign})", f"p({sign}a)", f"{sign}(a)",
                         f"not {sign}", f"all {sign} p", f"all {sign} p({sign})", f"all X p({sign})", f"p(a){sign}",
                         f"p(a,b{sign},c)", f"and p p{sign}q"):
                self.assertNoText(read_statement, text)

    def test_forty_parts_and_forty_one(self):
        given = (
            nested(39, neg, P),
            neg(wide(20, both, P)),
            neg(wide(20, either, YES)),
            neg(wide(20, when, word("p", "a", "b", "c"))),
            nested(30, neg, nested(9, every, P)),
            nested(29, neg, nested(10, some, word("p", "9"))),
            nested(10, every, neg(wide(15, both, word("p", "0", "5", "9")))),
        )
        for A in given:
            self.assertEqual(part_count(A), 40)
            self.assertEqual(read_statement(shown(A)), A)
            for B in (neg(A), both(A, P), either(P, A), when(NO, A)):
                self.assertGreater(part_count(B), 40)
                self.assertNoText(read_statement, shown(B))
        self.assertNoText(read_statement, "not " * 40 + "p")
        self.assertNoText(read_statement, "and p " * 20 + "p")
        self.assertEqual(read_statement("and p " * 19 + "p")[0], "and")

    def test_all_and_some_count_once_as_parts(self):
        A = wide(13, both, every(YES))
        self.assertEqual(part_count(A), 38)
        self.assertEqual(read_statement(shown(neg(neg(A)))), neg(neg(A)))
        self.assertNoText(read_statement, shown(neg(neg(neg(A)))))

    def test_ten_and_eleven_one_within_another(self):
        for build in (every, some, lambda A: neg(every(A)), lambda A: some(both(A, YES))):
            A = nested(10, build, word("p", "0", "9"))
            self.assertEqual(read_statement(shown(A)), A)
            self.assertNoText(read_statement, shown(nested(11, build, P)))
            self.assertNoText(read_statement, shown(build(A)))
            self.assertNoText(read_statement, shown(both(Q, build(A))))
        pair = both(nested(10, every, word("p", "9")), nested(10, some, word("q", "0", "9")))
        self.assertEqual(read_statement(shown(pair)), pair)
        self.assertNoText(read_statement, shown(every(pair)))
        self.assertNoText(read_statement, shown(both(nested(10, every, P), nested(11, some, Q))))
        self.assertNoText(read_statement, "all X " * 11 + "p")
        self.assertEqual(read_statement("all X " * 10 + "p(X)"), nested(10, every, word("p", "0")))

    def test_two_hundred_words(self):
        for text in ("not " * 199 + "p", "all X " * 99 + "not p", "and p " * 99 + "p q", "p " * 199 + "p", " " * 199):
            self.assertNoText(read_statement, text)

    def test_letters_by_how_many_stand_around(self):
        told = " ".join(f"all {letter}" for letter in "ABCDEFGHIJKLMNOPQRSTUVWXYZ")
        self.assertEqual(shown(nested(26, every, word("p", "25", "1", "0"))), f"{told} p(A,Y,Z)")
        self.assertEqual(shown(both(some(P), neg(every(some(word("p", "1")))))), "and some A p not all A some B p(A)")

    def test_what_is_handed_in_is_unchanged(self):
        for text, A in STATEMENTS:
            kept = copy.deepcopy(A)
            self.assertEqual((shown(A), shown(A), A), (text, text, kept))
            self.assertEqual((read_statement(text), read_statement(text)), (kept, kept))


class Rows(Refused):
    ROWS = (
        ("- => -", [], []),
        ("- => yes", [], [YES]),
        ("no => -", [NO], []),
        ("p => q", [P], [Q]),
        ("if p q, p => q", [P, when(P, Q)], [Q]),
        ("and p q, or p q, p, q => not p, p, r", [both(P, Q), either(P, Q), P, Q], [neg(P), P, R]),
        ("p, p(a), p(a,b) => -", [word("p", "a", "b"), P, word("p", "a")], []),
        ("- => all A p(A), some A p(A), q(a)", [], [some(word("p", "0")), every(word("p", "0")), word("q", "a")]),
    )

    def test_each_is_read_and_told(self):
        for text, lefts, rights in self.ROWS:
            self.assertEqual(read_row(text), row_of(lefts, rights))
            self.assertEqual(shown_row(row_of(lefts, rights)), text)

    def test_the_order_of_the_text_does_not_count(self):
        self.assertEqual(read_row("p, if p q => q"), row_of([P, when(P, Q)], [Q]))
        self.assertEqual(read_row("q, p => r, p, q"), row_of([P, Q], [P, Q, R]))
        self.assertEqual(shown_row(read_row("yes, r, q, p, not p, and p q => -")), "and p q, not p, p, q, r, yes => -")

    def test_statements_written_twice(self):
        self.assertEqual(read_row("p, p => q, q, q"), row_of([P], [Q]))
        self.assertEqual(read_row("all X p(X), all Y p(Y) => -"), row_of([every(word("p", "0"))], []))
        self.assertEqual(read_row("p => p"), row_of([P], [P]))

    def test_no_statements_on_either_hand(self):
        self.assertEqual(read_row("- => -"), ())
        self.assertEqual(shown_row(()), "- => -")
        for text in ("-, p => q", "p, - => q", "p => -, q", "p => q, -", "-, - => p", "-- => p", "- => --", "- - => -"):
            self.assertNoText(read_row, text)

    def test_what_is_none(self):
        for text in (
            "", " ", "-", "p", "=>", " => ", "=> p", " => p", "p =>", "p => ", "p=>q", "p =>q", "p=> q",
            "p  => q", "p =>  q", " p => q", "p => q ", "p => q => r", "p => => q", " =>  => ", "p => q =>",
            "p,q => r", "p , q => r", "p,  q => r", "p, => q", ", p => q", "p, , q => r", "p => q,",
            "p => q, ", "p;q => r", "p = > q", "p -> q", "p => q\n", "p =>\tq", "p\t=> q", "p\n=> q",
            "p => q; close", "p q => r", "p(X) => q", "all X p(X) => q(X)", "p => not", "and p => q", "P => q",
            "p =>\u00a0q", "p ,q => -", "p(a, b) => q", "- => - => -", "-=>-",
        ):
            self.assertNoText(read_row, text)

    def test_letters_do_not_reach_the_next_statement(self):
        self.assertNoText(read_row, "all X p(X), q(X) => -")

    def test_forty_statements_and_forty_one(self):
        words = [word(f"{a}{b}") for a in "abcdefg" for b in "uvwxyz"][:42]
        for many in (0, 1, 20, 39, 40):
            row = row_of(words[:many], words[many:40])
            self.assertEqual(read_row(shown_row(row)), row)
        for many in (0, 1, 20, 40, 41):
            self.assertNoText(read_row, shown_row(row_of(words[:many], words[many:41])))
        self.assertNoText(read_row, shown_row(row_of(words[:30], words[:11])))
        self.assertEqual(read_row(shown_row(row_of(words[:20], words[:20]))), row_of(words[:20], words[:20]))

    def test_one_written_twice_is_counted_twice(self):
        self.assertEqual(read_row(", ".join(["p"] * 40) + " => -"), row_of([P], []))
        self.assertEqual(read_row(", ".join(["p"] * 20) + " => " + ", ".join(["p"] * 20)), row_of([P], [P]))
        self.assertNoText(read_row, ", ".join(["p"] * 41) + " => -")
        self.assertNoText(read_row, "- => " + ", ".join(["p"] * 41))
        self.assertNoText(read_row, ", ".join(["p"] * 20) + " => " + ", ".join(["p"] * 21))

    def test_bounds_of_each_statement(self):
        self.assertEqual(read_row("not " * 39 + "p => p"), row_of([nested(39, neg, P)], [P]))
        nots = "not " * 40 + "p"
        for text in (f"{nots} => p", f"p => p, {nots}", "all X " * 11 + "p => p", "p => q(a,b,c,d)"):
            self.assertNoText(read_row, text)

    def test_what_is_shown_is_read_to_the_row_again(self):
        chance = random.Random("rows")
        for _ in range(300):
            lefts = [chosen(chance, chance.randrange(5)) for _ in range(chance.randrange(5))]
            rights = [chosen(chance, chance.randrange(5)) for _ in range(chance.randrange(5))]
            row = row_of(lefts, rights)
            kept = copy.deepcopy(row)
            self.assertEqual(read_row(shown_row(row)), row)
            self.assertEqual(row, kept)


EVERY = every(word("p", "0"))
SOME = some(word("p", "0"))


class Proofs(Refused):
    PROOFS = (
        ("p => p; close", [P], [P], CLOSE),
        ("- => yes; cut p; close; close", [], [YES], cut(P, CLOSE, CLOSE)),
        ("- => yes; cut yes; close; close", [], [YES], cut(YES, CLOSE, CLOSE)),
        ("and p q => p; left and p q; close", [both(P, Q)], [P], left(both(P, Q), CLOSE)),
        ("p, q => and p q; right and p q; close; close", [P, Q], [both(P, Q)], right(both(P, Q), CLOSE, CLOSE)),
        ("p => or p q; right or p q; close", [P], [either(P, Q)], right(either(P, Q), CLOSE)),
        ("or p q => p, q; left or p q; close; close", [either(P, Q)], [P, Q], left(either(P, Q), CLOSE, CLOSE)),
        ("if p q, p => q; left if p q; close; close", [when(P, Q), P], [Q], left(when(P, Q), CLOSE, CLOSE)),
        ("q => if p q; right if p q; close", [Q], [when(P, Q)], right(when(P, Q), CLOSE)),
        ("not p, p => -; left not p; close", [neg(P), P], [], left(neg(P), CLOSE)),
        ("- => not p, p; right not p; close", [], [neg(P), P], right(neg(P), CLOSE)),
        ("all A p(A) => p(a); left all A p(A) by a; close", [EVERY], [word("p", "a")], left(EVERY, CLOSE, by="a")),
        (
            "all A p(A) => all A p(A); right all A p(A) by n0; left all A p(A) by n0; close",
            [EVERY],
            [EVERY],
            right(EVERY, left(EVERY, CLOSE, by="n0"), by="n0"),
        ),
        (
            "some A p(A) => some A p(A); left some A p(A) by a1234567; right some A p(A) by a1234567; close",
            [SOME],
            [SOME],
            left(SOME, right(SOME, CLOSE, by="a1234567"), by="a1234567"),
        ),
        (
            "or p q => and yes or q p; right and yes or q p; close; right or q p; left or p q; close; close",
            [either(P, Q)],
            [both(YES, either(Q, P))],
            right(both(YES, either(Q, P)), CLOSE, right(either(Q, P), left(either(P, Q), CLOSE, CLOSE))),
        ),
        (
            "p => p; cut q; cut r; close; close; close",
            [P],
            [P],
            cut(Q, cut(R, CLOSE, CLOSE), CLOSE),
        ),
        ("p => p; cut q; close; cut r; close; close", [P], [P], cut(Q, CLOSE, cut(R, CLOSE, CLOSE))),
    )

    def test_each_is_read_and_told(self):
        for text, lefts, rights, tree in self.PROOFS:
            row = row_of(lefts, rights)
            self.assertIs(fits(row, tree), True, text)
            self.assertEqual(read_proof(text), (row, tree))
            self.assertEqual(shown_proof(row, tree), text)

    def test_words_called_like_nodes(self):
        close, cutting, by, lefty, righty = word("close"), word("cut"), word("by"), word("left"), word("right")
        for text, row, tree in (
            ("close => close; close", row_of([close], [close]), CLOSE),
            ("close => close; cut close; close; close", row_of([close], [close]), cut(close, CLOSE, CLOSE)),
            ("- => -; cut cut; close; close", (), cut(cutting, CLOSE, CLOSE)),
            ("- => -; cut by; close; close", (), cut(by, CLOSE, CLOSE)),
            ("- => -; left not left; close", (), left(neg(lefty), CLOSE)),
            ("- => -; right not right; close", (), right(neg(righty), CLOSE)),
            ("- => -; left not by; close", (), left(neg(by), CLOSE)),
            ("- => -; left and by by; close", (), left(both(by, by), CLOSE)),
            ("- => -; left all A by by by; close", (), left(every(by), CLOSE, by="by")),
            ("- => -; left all A by(A) by a; close", (), left(every(word("by", "0")), CLOSE, by="a")),
            ("- => -; right some A not by by close; close", (), right(some(neg(by)), CLOSE, by="close")),
            ("- => -; left all A by by cut; close", (), left(every(by), CLOSE, by="cut")),
            ("- => -; cut all A by; close; close", (), cut(every(by), CLOSE, CLOSE)),
        ):
            self.assertEqual(read_proof(text), (row, tree))
            self.assertEqual(shown_proof(row, tree), text)

    def test_any_letters_are_read(self):
        told = read_proof("all X p(X) => p(a); left all Y p(Y) by a; close")
        self.assertEqual(told, (row_of([EVERY], [word("p", "a")]), left(EVERY, CLOSE, by="a")))

    def test_a_tree_that_does_not_fit_its_row(self):
        for text, row, tree in (
            ("p => q; close", row_of([P], [Q]), CLOSE),
            ("- => -; close", (), CLOSE),
            ("- => -; left and p q; close", (), left(both(P, Q), CLOSE)),
            ("p(a) => all A p(A); right all A p(A) by a; close", row_of([word("p", "a")], [EVERY]),
             right(EVERY, CLOSE, by="a")),
            ("p => p; cut not q; close; left not q; close", row_of([P], [P]), cut(neg(Q), CLOSE, left(neg(Q), CLOSE))),
            ("p => p; left not r; right or p q; left or p q; close; close", row_of([P], [P]),
             left(neg(R), right(either(P, Q), left(either(P, Q), CLOSE, CLOSE)))),
        ):
            self.assertEqual(read_proof(text), (row, tree))
            self.assertEqual(shown_proof(row, tree), text)

    def test_a_rule_of_a_word_yes_no(self):
        for side in ("left", "right"):
            for A in ("p", "p(a)", "yes", "no", "by"):
                for behind in ("", "; close", "; close; close", " by a", " by a; close"):
                    self.assertNoText(read_proof, f"p => p; {side} {A}{behind}")

    def test_by_a_name_where_it_is_an_all_or_some_and_only_there(self):
        for side in ("left", "right"):
            for A in ("all X p(X)", "some X p(X)", "all X p", "some X by"):
                self.assertEqual(read_proof(f"- => -; {side} {A} by a; close")[1][3], "a")
                for wrong in (
                    "", " by", " by ", " a", " by by a", " by a b", " by  a", "  by a", " by a ", " by 0",
                    " by 0a", " by A", " by X", " by abcdefghi", " by a-b", " by \u00e9", " BY a",
                    " by a by b", " by a,b", " by p(a)", " to a", " by a\n", "\tby a", " by n\u0660",
                    " by yes no", " by a; by a",
                ):
                    self.assertNoText(read_proof, f"- => -; {side} {A}{wrong}; close")
            for A in ("not p", "and p q", "or p q", "if p q", "not all X p(X)", "and p some X p(X)"):
                for many in (1, 2):
                    self.assertNoText(read_proof, f"- => -; {side} {A} by a" + "; close" * many)
        self.assertNoText(read_proof, "- => yes; cut all X p(X) by a; close; close")
        self.assertNoText(read_proof, "- => yes; cut p by a; close; close")
        self.assertNoText(read_proof, "- => yes; close by a")

    def test_names_of_rules(self):
        for name in ("a", "z", "abcdefgh", "a0", "n0", "z1234567", "yes", "all", "by"):
            self.assertEqual(read_proof(f"- => -; left all A p by {name}; close")[1], left(every(P), CLOSE, by=name))

    def test_nodes_that_are_none(self):
        for node in (
            "", " ", "close ", " close", "closes", "Close", "close p", "close close", "cut", "cut ", "cut  p",
            " cut p", "cut p ", "cut p q", "cut P", "cut\tp", "cuts p", "left", "left ", "right",
            "left  not p", "left not", "left not p ", "left not p q", "Left not p", "not p", "p", "up not p",
            "left: not p", "rule left not p", "left left not p", "left cut not p", "left close", "close\n",
            "-", "p => p", "left not p,", "yes", "cut not", "cut all p", "cut p(X)", "left all X p(Y) by a",
            "middle not p", "by a",
        ):
            for many in (0, 1, 2):
                self.assertNoText(read_proof, f"p => p; {node}" + "; close" * many)

    def test_semicolons(self):
        for text in (
            "p => p;close", "p => p ; close", "p => p;  close", "p => p; close;", "p => p; close; ", "; close",
            "p => p; ; close", "p => p, close", "close", "p => p; cut q;close; close", "p => p\n; close",
            "p => p;\nclose", ";", "", "p => p;", "p => p; ",
        ):
            self.assertNoText(read_proof, text)

    def test_rows_that_are_none(self):
        many = ", ".join(["p"] * 41)
        for row in ("", "p", "p => ", "p => P", "p,q => p", "p => q => r", "-", "p; q => p", f"{many} => p"):
            self.assertNoText(read_proof, f"{row}; close")
        self.assertEqual(read_proof(", ".join(["p"] * 39) + " => p; close"), (row_of([P], [P]), CLOSE))

    def test_a_node_too_many_and_one_too_few(self):
        self.assertNoText(read_proof, "p => p")
        self.assertNoText(read_proof, "p => p; close; close")
        for text, lefts, rights, tree in self.PROOFS:
            self.assertNoText(read_proof, f"{text}; close")
            self.assertNoText(read_proof, f"{text}; cut p; close; close")
            self.assertNoText(read_proof, f"{text}; left not p; close")
            self.assertNoText(read_proof, text.rpartition("; ")[0])
        for row, tree in sought_derivations(60):
            text = shown_proof(row, tree)
            self.assertNoText(read_proof, f"{text}; close")
            self.assertNoText(read_proof, text.rpartition("; ")[0])

    def test_how_many_kids_each_rule_has(self):
        two = ("right and p q", "left or p q", "left if p q", "cut p", "cut and p q")
        one = ("left and p q", "right or p q", "right if p q", "left not p", "right not p", "left all X p by a",
               "right all X p by a", "left some X p by a", "right some X p by a")
        for many, given in ((1, one), (2, two)):
            for node in given:
                for closes in range(4):
                    text = f"- => -; {node}" + "; close" * closes
                    if closes == many:
                        self.assertEqual(read_proof(text)[1][-1], (CLOSE,) * many)
                    else:
                        self.assertNoText(read_proof, text)

    def test_600_nodes_and_601(self):
        for tree in (bush(600), cut(P, bush(300), bush(299)), cut(P, bush(299), bush(300))):
            self.assertEqual(nodes(tree), 600)
            self.assertEqual(read_proof(shown_proof(BASE, tree)), (BASE, tree))
        for tree in (bush(601), cut(P, bush(300), bush(300)), left(neg(P), bush(600))):
            self.assertEqual(nodes(tree), 601)
            self.assertNoText(read_proof, shown_proof(BASE, tree))

    def test_40_high_and_41(self):
        for tree in (based(37), nested(39, lambda kid: cut(P, kid, CLOSE), CLOSE),
                     nested(39, lambda kid: cut(P, CLOSE, kid), CLOSE)):
            self.assertEqual(height(tree), 40)
            self.assertEqual(read_proof(shown_proof(BASE, tree)), (BASE, tree))
            for higher in (cut(P, tree, CLOSE), cut(P, CLOSE, tree), left(neg(P), tree)):
                self.assertNoText(read_proof, shown_proof(BASE, higher))
        self.assertNoText(read_proof, "- => -" + "; left not p" * 599 + "; close")
        self.assertNoText(read_proof, "- => -" + "; left not p" * 600)

    def test_bounds_of_statements_in_nodes(self):
        for node, closes in (("cut ", 2), ("left ", 1), ("right ", 1)):
            text = "p => p; " + node + "not " * 39 + "p" + "; close" * closes
            self.assertEqual(read_proof(text)[0], row_of([P], [P]))
            self.assertNoText(read_proof, text.replace("not", "not not", 1))
            self.assertNoText(read_proof, text.replace("not p", "p(a,b,c,d)"))
        A = nested(10, every, nested(29, neg, P))
        self.assertEqual(read_proof(f"- => -; left {shown(A)} by a; close"), ((), left(A, CLOSE, by="a")))
        self.assertNoText(read_proof, f"- => -; left {shown(every(A))} by a; close")
        self.assertNoText(read_proof, f"- => -; left {shown(every(nested(39, neg, P)))} by a; close")

    def test_what_is_shown_is_read_to_the_row_and_the_tree_again(self):
        for row, tree in carried_cuts() + sought_derivations(200):
            kept = copy.deepcopy((row, tree))
            text = shown_proof(row, tree)
            self.assertEqual(read_proof(text), kept)
            self.assertEqual((row, tree), kept)
            self.assertEqual(shown_proof(row, tree), text)


if __name__ == "__main__":
    unittest.main()
