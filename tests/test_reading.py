"""Points 12 and 13: stretchbook.reading."""

import itertools
import random
import unittest

from stretchbook.errors import NoLine, NoName, NoShelf, NoSpan, SpanError, Stuck
from stretchbook.makes import OLDEST, next_make, shown_make
from stretchbook.reading import read_span
from stretchbook.spans import ALL, is_span
from tests.plain import beside, in_text, lies, m, makes_in, stands_as_a_span

MAKES = ["0.0.0-0", "0.0.0-0.0", "0.0.0-a", "0.0.0", "0.0.1-0", "0.0.1", "0.0.7-b.3", "0.1.0-0", "0.1.0", "0.2.5-rc.1",
         "0.2.5", "1.0.0-0", "1.0.0-0.0", "1.0.0-a.2", "1.0.0", "1.0.1", "1.2.3-9", "1.2.3", "2.0.0-0", "2.0.0",
         "12.34.56"]
SIGNS = ["=", "!=", "<", ">", "<=", ">=", "^", "~"]


class Reading(unittest.TestCase):
    def read(self, text):
        """The span, held against the plain words at the ends of all terms and right beside them."""
        span = read_span(text)
        self.assertTrue(stands_as_a_span(span), (text, span))
        self.assertIs(is_span(span), True)
        edges = [edge for piece in span for edge in piece if edge is not None]
        for one in beside(makes_in(text) + edges):
            self.assertEqual(lies(one, span), in_text(one, text), (text, one))
        return span

    def told(self, text, *pieces):
        span = tuple([(m(low), None if high is None else m(high)) for low, high in pieces])
        self.assertEqual(self.read(text), span, text)


class TestPlainTerms(Reading):
    def test_all_and_none(self):
        self.assertEqual(self.read("*"), ALL)
        self.assertEqual(self.read("none"), ())

    def test_each_sign_with_each_make(self):
        for sign, text in itertools.product(SIGNS, MAKES):
            self.read(sign + text)

    def test_this_make_alone(self):
        self.told("=1.2.3", ("1.2.3", "1.2.4-0"))
        self.told("=1.2.3-a.2", ("1.2.3-a.2", "1.2.3-a.2.0"))
        self.told("=0.0.0-0", ("0.0.0-0", "0.0.0-0.0"))

    def test_all_but_this(self):
        self.told("!=1.2.3", ("0.0.0-0", "1.2.3"), ("1.2.4-0", None))
        self.told("!=1.2.3-a", ("0.0.0-0", "1.2.3-a"), ("1.2.3-a.0", None))
        self.told("!=0.0.0-0", ("0.0.0-0.0", None))

    def test_older_and_newer(self):
        self.told("<1.2.3", ("0.0.0-0", "1.2.3"))
        self.told("<=1.2.3", ("0.0.0-0", "1.2.4-0"))
        self.told(">1.2.3", ("1.2.4-0", None))
        self.told(">=1.2.3", ("1.2.3", None))
        self.told("<1.2.3-a", ("0.0.0-0", "1.2.3-a"))
        self.told("<=1.2.3-a", ("0.0.0-0", "1.2.3-a.0"))
        self.told(">1.2.3-a", ("1.2.3-a.0", None))
        self.told(">=1.2.3-a", ("1.2.3-a", None))

    def test_at_the_oldest(self):
        self.told("<0.0.0-0")
        self.told("<=0.0.0-0", ("0.0.0-0", "0.0.0-0.0"))
        self.told(">0.0.0-0", ("0.0.0-0.0", None))
        self.assertEqual(read_span(">=0.0.0-0"), ALL)

    def test_caret_with_a_great_number(self):
        self.told("^1.2.3", ("1.2.3", "2.0.0-0"))
        self.told("^1.0.0", ("1.0.0", "2.0.0-0"))
        self.told("^1.0.0-0", ("1.0.0-0", "2.0.0-0"))
        self.told("^12.34.56-rc.1", ("12.34.56-rc.1", "13.0.0-0"))

    def test_caret_with_a_middle_number_alone(self):
        self.told("^0.2.3", ("0.2.3", "0.3.0-0"))
        self.told("^0.2.0", ("0.2.0", "0.3.0-0"))
        self.told("^0.2.3-a", ("0.2.3-a", "0.3.0-0"))

    def test_caret_with_neither(self):
        self.told("^0.0.3", ("0.0.3", "0.0.4-0"))
        self.told("^0.0.0", ("0.0.0", "0.0.1-0"))
        self.told("^0.0.0-0", ("0.0.0-0", "0.0.1-0"))
        self.told("^0.0.3-a", ("0.0.3-a", "0.0.4-0"))

    def test_tilde(self):
        self.told("~1.2.3", ("1.2.3", "1.3.0-0"))
        self.told("~0.0.3", ("0.0.3", "0.1.0-0"))
        self.told("~0.2.0-a.1", ("0.2.0-a.1", "0.3.0-0"))
        self.told("~1.0.0", ("1.0.0", "1.1.0-0"))

    def test_one_number(self):
        self.told("0", ("0.0.0-0", "1.0.0-0"))
        self.told("1", ("1.0.0-0", "2.0.0-0"))
        self.told("12", ("12.0.0-0", "13.0.0-0"))

    def test_two_numbers(self):
        self.told("0.0", ("0.0.0-0", "0.1.0-0"))
        self.told("0.9", ("0.9.0-0", "0.10.0-0"))
        self.told("1.0", ("1.0.0-0", "1.1.0-0"))
        self.told("12.34", ("12.34.0-0", "12.35.0-0"))


class TestBrackets(Reading):
    def test_all_four_pairs_of_signs(self):
        self.told("[1.0.0,2.0.0]", ("1.0.0", "2.0.1-0"))
        self.told("[1.0.0,2.0.0)", ("1.0.0", "2.0.0"))
        self.told("(1.0.0,2.0.0]", ("1.0.1-0", "2.0.1-0"))
        self.told("(1.0.0,2.0.0)", ("1.0.1-0", "2.0.0"))
        self.told("(1.0.0-a,2.0.0-b]", ("1.0.0-a.0", "2.0.0-b.0"))

    def test_nothing_on_a_side(self):
        for first, last in itertools.product("[(", "])"):
            self.assertEqual(self.read(first + "," + last), ALL)
        for first in "[(":
            self.told(first + ",2.0.0]", ("0.0.0-0", "2.0.1-0"))
            self.told(first + ",2.0.0)", ("0.0.0-0", "2.0.0"))
        for last in "])":
            self.told("[1.0.0," + last, ("1.0.0", None))
            self.told("(1.0.0," + last, ("1.0.1-0", None))

    def test_they_hold_no_make(self):
        for text in ("(1.0.0,1.0.0)", "[1.0.0,1.0.0)", "(1.0.0,1.0.0]", "[2.0.0,1.0.0]", "(2.0.0,1.0.0)",
                     "(1.0.0,1.0.1-0)", "[1.0.0,1.0.0-a]", "[,0.0.0-0)", "(,0.0.0-0)"):
            self.assertEqual(self.read(text), (), text)

    def test_one_make_alone(self):
        self.told("[1.0.0,1.0.0]", ("1.0.0", "1.0.1-0"))
        self.told("[1.0.0,1.0.1-0)", ("1.0.0", "1.0.1-0"))
        self.told("(1.0.0,1.0.1-0]", ("1.0.1-0", "1.0.1-0.0"))
        self.told("[,0.0.0-0]", ("0.0.0-0", "0.0.0-0.0"))

    def test_each_pair_of_makes(self):
        makes = ["", "0.0.0-0", "0.0.0-0.0", "0.2.5", "1.0.0-a.2", "1.0.0", "1.0.1-0", "2.0.0"]
        for first, low, high, last in itertools.product("[(", makes, makes, "])"):
            self.read(f"{first}{low},{high}{last}")


class TestSeveralTerms(Reading):
    def test_all_terms_of_an_alternative(self):
        self.told(">=1.0.0 <2.0.0", ("1.0.0", "2.0.0"))
        self.told("<2.0.0 >=1.0.0", ("1.0.0", "2.0.0"))
        self.told("^1.0.0 !=1.5.0", ("1.0.0", "1.5.0"), ("1.5.1-0", "2.0.0-0"))
        self.told("1 !=1.0.0-0 !=1.0.0", ("1.0.0-0.0", "1.0.0"), ("1.0.1-0", "2.0.0-0"))
        self.told("* * >1.0.0 *", ("1.0.1-0", None))
        self.told(">=1.0.0 [,3.0.0] ~1.2.0", ("1.2.0", "1.3.0-0"))

    def test_terms_that_hold_no_make_together(self):
        for text in ("<1.0.0 >1.0.0", "=1.0.0 !=1.0.0", "1 2", "1.0 1.1", "* none", "none none", "=1.0.0 =1.0.1"):
            self.assertEqual(self.read(text), (), text)

    def test_several_alternatives(self):
        self.told("1 | 3", ("1.0.0-0", "2.0.0-0"), ("3.0.0-0", "4.0.0-0"))
        self.told("3 | 1", ("1.0.0-0", "2.0.0-0"), ("3.0.0-0", "4.0.0-0"))
        self.told(">=3.0.0 <4.0.0 | =1.0.0 | >5.0.0", ("1.0.0", "1.0.1-0"), ("3.0.0", "4.0.0"), ("5.0.1-0", None))

    def test_none_of_them_holds_a_make(self):
        for text in ("none | none", "1 2 | none | [2.0.0,1.0.0]", "<0.0.0-0 | =1.0.0 =2.0.0"):
            self.assertEqual(self.read(text), (), text)
        self.told("none | =1.0.0 | 1 2", ("1.0.0", "1.0.1-0"))

    def test_pieces_that_touch(self):
        self.told("1 | 2 | 3", ("1.0.0-0", "4.0.0-0"))
        self.told("<1.0.0 | =1.0.0 | >1.0.0 <2.0.0", ("0.0.0-0", "2.0.0"))
        self.told("<=1.0.0 | =1.0.1-0 | >=1.0.1-0.0", ("0.0.0-0", None))
        self.told("<1.0.0 | >1.0.0", ("0.0.0-0", "1.0.0"), ("1.0.1-0", None))

    def test_pieces_that_lie_over_one_another(self):
        self.told("[1.0.0,3.0.0] | [2.0.0,4.0.0]", ("1.0.0", "4.0.1-0"))
        self.told("[1.0.0,4.0.0] | [2.0.0,3.0.0]", ("1.0.0", "4.0.1-0"))
        self.told("^1.0.0 | ~1.2.0 | * =1.5.0", ("1.0.0", "2.0.0-0"))
        self.assertEqual(self.read("!=1.0.0 | !=2.0.0"), ALL)

    def test_each_pair_of_terms(self):
        terms = ["*", "none", "=1.0.0", "!=1.0.1-0", "<1.0.1-0", ">=0.2.5", "^0.2.5", "~1.0.0", "1", "0.2",
                 "(1.0.0,2.0.0-0]"]
        for one, other in itertools.product(terms, repeat=2):
            self.read(f"{one} {other}")
            self.read(f"{one} | {other}")

    def test_many_texts(self):
        chance = random.Random(12)
        words = ["*", "none", "0", "1", "0.2", "1.2"] + [sign + text for sign in SIGNS for text in MAKES]
        words += [f"{first}{low},{high}{last}" for first, last in itertools.product("[(", "])")
                  for low, high in (("", "1.2.3"), ("0.2.5", ""), ("0.0.1", "1.0.0"), ("1.0.0-a.2", "2.0.0-0"))]
        for _ in range(300):
            parts = [" ".join(chance.choices(words, k=chance.randint(1, 4))) for _ in range(chance.randint(1, 5))]
            self.read(" | ".join(parts))

    def test_long_texts(self):
        text = " | ".join([f"={k}.0.0" for k in range(900)])
        self.assertEqual(read_span(text), tuple([((k, 0, 0, ()), (k, 0, 1, (0,))) for k in range(900)]))
        text = " ".join([f"!={k}.0.0" for k in range(1, 1000)])
        self.assertEqual(len(read_span(text)), 1000)
        self.assertEqual(read_span(" ".join(["*"] * 5000)), ALL)
        self.assertEqual(read_span(" | ".join(["1"] * 2500)), read_span("1"))


class TestBounds(Reading):
    GREAT = str(10 ** 14 - 1)

    def test_great_numbers(self):
        great = self.GREAT
        for text in (f"{great}.0.0", f"0.{great}.0", f"0.0.{great}", f"1.2.3-{great}",
                     f"{great}.{great}.{great}-{great}"):
            for sign in SIGNS:
                self.read(sign + text)
            for first, last in itertools.product("[(", "])"):
                self.read(f"{first}{text},{last}")
                self.read(f"{first},{text}{last}")
        for text in (great, f"0.{great}", f"{great}.0", f"{great}.{great}"):
            self.read(text)
        self.assertEqual(read_span(great), (((10 ** 14 - 1, 0, 0, (0,)), (10 ** 14, 0, 0, (0,))),))

    def test_eleven_marks(self):
        for mark in ("a", "0", "7", "zzzzzzzz"):
            text = "1.2.3-" + ".".join([mark] * 11)
            for sign in SIGNS:
                self.read(sign + text)
            for first, last in itertools.product("[(", "])"):
                self.read(f"{first}{text},{last}")
                self.read(f"{first},{text}{last}")
        low = (1, 2, 3, ("a",) * 11)
        self.assertEqual(read_span("=" + shown_make(low, ())), ((low, low[:3] + (("a",) * 11 + (0,),)),))

    def test_makes_that_were_told_here(self):
        told = read_span(f"{self.GREAT} | <=1.0.0-a.a.a.a.a.a.a.a.a.a.a")
        low, high = told[0][1], told[1][1]
        self.assertEqual(read_span("<" + shown_make(low, ())), ((OLDEST, low),))
        self.assertEqual(read_span("^" + shown_make(low, ())), ((low, (2, 0, 0, (0,))),))
        self.assertEqual(read_span(">=" + shown_make(high, ())), ((high, None),))
        self.assertEqual(read_span("=" + shown_make(high, ())), ((high, next_make(high)),))


class TestRefusals(unittest.TestCase):
    def refused(self, text, place):
        for _ in range(2):
            with self.assertRaises(NoSpan, msg=text) as caught:
                read_span(text)
            self.assertEqual(caught.exception.place, place, repr(text))
            self.assertIs(type(caught.exception.place), int)

    def no_term(self, *words):
        """The word by itself, behind terms, behind a | and ahead of other faults."""
        for word in words:
            self.refused(word, 0)
            self.refused(f"* {word}", 1)
            self.refused(f"* | {word}", 2)
            self.refused(f"1 <2.0.0 | * {word} | | x", 4)
            self.refused(f"{word} *", 0)
            self.refused(f"{word} |", 0)
            self.refused(f"{word} | *", 0)

    def test_the_kind_of_refusal(self):
        with self.assertRaises(NoSpan) as caught:
            read_span("x")
        self.assertIsInstance(caught.exception, SpanError)
        self.assertIsInstance(caught.exception, ValueError)
        for other in (NoShelf, Stuck, NoName, NoLine):
            self.assertNotIsInstance(caught.exception, other)

    def test_the_text_without_signs(self):
        self.refused("", 0)

    def test_bars(self):
        self.refused("|", 0)
        self.refused("| *", 0)
        self.refused("| |", 0)
        self.refused("* |", 2)
        self.refused("* | | *", 2)
        self.refused("* | |", 2)
        self.refused("* 1 | 2 |", 5)
        self.refused("1 | 2 | | 3 |", 4)
        self.refused("*|", 0)
        self.refused("*|*", 0)
        self.refused("* || *", 1)
        self.refused("* |*", 1)

    def test_blanks(self):
        self.refused(" ", 0)
        self.refused(" *", 0)
        self.refused("* ", 1)
        self.refused("*  *", 1)
        self.refused("* |  *", 2)
        self.refused("*  | *", 1)
        self.refused("* | ", 2)
        self.refused("* | * ", 3)
        self.refused("   ", 0)

    def test_a_make_by_itself(self):
        self.no_term("1.0.0", "1.0.0-a", "0.0.0-0", "1.0.0+mine")

    def test_a_make_with_notes(self):
        self.no_term(*[sign + "1.0.0+mine" for sign in SIGNS])
        self.no_term("=1.0.0-a+mine", "[1.0.0+mine,]", "(,1.0.0+mine)", "[1.0.0,2.0.0+a]", "1+mine", "1.0+mine",
                     "=1.0.0+")

    def test_a_sign_without_a_make(self):
        self.no_term(*SIGNS)
        self.no_term("!", "!1.0.0", "==1.0.0", "=<1.0.0", "=>1.0.0", "<>1.0.0", "^^1.0.0", "~>1.0.0", "< 1.0.0",
                     "1.0.0=", "^*", "=none", "=1", "^1.0", "~1", ">=1.2", "!=*", "<=", "=1.0.0,", "^[1.0.0,]")

    def test_numbers_that_are_none(self):
        self.no_term("01", "00", "1.01", "01.1", "1.", ".1", ".", "1..2", "1.2.", "1.2.3.4", "-1", "+1", "1a", "1-a",
                     "1.0-a", "1e3", "1,2", "0x1", "1\n", "=01.0.0", "=1.00.0", "=1.0.0-01", "^1.0.0-a.00",
                     "1000000000000000", "1.1000000000000000", "9" * 5000, "=1000000000000000.0.0")

    def test_other_words(self):
        self.no_term("x", "all", "any", "None", "NONE", "nones", "none*", "**", "*1", "1*", "/", "&", "-", "+", "\n",
                     "*\n", "none\n", "=1.0.0\n", "=1.0.0-", "=1.0.0-A", "=1.0.0-a..b", "=1.0.0-" + ".".join("a" * 13))

    def test_brackets_that_lack_something(self):
        self.no_term("[", "(", "]", ")", "[]", "()", "[)", "(]", ",", "[,", "(,", ",]", ",)", "1.0.0,2.0.0",
                     "[1.0.0,2.0.0", "(1.0.0,", "1.0.0,2.0.0]", "1.0.0,)", "[1.0.0]", "(1.0.0)", "[1.0.0;2.0.0]",
                     "[1.0.0-2.0.0]")

    def test_brackets_with_too_much(self):
        self.no_term("[,,]", "[1.0.0,,2.0.0]", "[1.0.0,2.0.0,]", "[,1.0.0,2.0.0]", "[1.0.0,2.0.0,3.0.0]",
                     "[[1.0.0,2.0.0]", "[1.0.0,2.0.0]]", "([1.0.0,2.0.0])", "[1.0.0,2.0.0]x", "x[1.0.0,2.0.0]", "[1,2]",
                     "[1.0,2.0)", "[*,*]", "[none,]", "[=1.0.0,]", "[1.0.0,2.0.0>", "{1.0.0,2.0.0}", "]1.0.0,2.0.0[",
                     ")1.0.0,2.0.0(")

    def test_brackets_that_hold_a_blank(self):
        self.refused("[1.0.0, 2.0.0]", 0)
        self.refused("[ 1.0.0,2.0.0]", 0)
        self.refused("* [1.0.0,2.0.0 ]", 1)
        self.refused("[, ]", 0)

    def test_the_first_of_several(self):
        self.refused("* x y", 1)
        self.refused("* | x |", 2)
        self.refused("x | | *", 0)
        self.refused("1 | | x", 2)

    def test_the_last_word_of_a_long_text(self):
        self.refused(" ".join(["*"] * 4999 + ["x"]), 4999)
        self.refused(" | ".join(["*"] * 2500) + " |", 5000)


if __name__ == "__main__":
    unittest.main()
