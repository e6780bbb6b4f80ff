"""Points 14 and 15, and point 4 of texts: stretchbook.writing."""

import itertools
import random
import re
import unittest

from stretchbook.makes import OLDEST, next_make, shown_make
from stretchbook.reading import read_span
from stretchbook.spans import ALL, joined, less
from stretchbook.writing import price, prices, words_in, written
from tests.plain import beside, edges_in, forty, in_text, lies, m, make, makes_in, oldest_first, spans_over

SIGNS = ["=", "!=", "<", ">", "<=", ">=", "^", "~"]
PLAIN = re.compile(r"\*|none|(=|!=|<|>|<=|>=|\^|~)[0-9]+\.[0-9]+\.[0-9]+(-[0-9a-z.]+)?|[0-9]+(\.[0-9]+)?")


def least_words(cuts):
    """For each span whose edges are among these cuts (the oldest make is the first),
    as a number with a bit for each stretch from cut to cut, the fewest words: all
    texts of plain terms that turn at these cuts alone are tried."""
    words = ["*", "none"] + [sign + shown_make(cut, ()) for sign in SIGNS for cut in cuts]
    words += [str(cut[0]) for cut in cuts] + [f"{cut[0]}.{cut[1]}" for cut in cuts]
    turning = [word for word in words if set(edges_in([read_span(word)])) <= set(cuts)]
    terms = {sum(1 << k for k, cut in enumerate(cuts) if in_text(cut, word)) for word in turning}
    alternatives = levels({mask: 1 for mask in terms}, terms, lambda one, other: one & other)
    texts = {}
    by_count = [set()]
    for count in range(1, 2 * len(cuts) + 1):
        found = {mask for mask, cost in alternatives.items() if cost == count}
        for other, cost in alternatives.items():
            if cost < count:
                found |= {mask | other for mask in by_count[count - cost]}
        by_count.append(found - set(texts))
        texts.update({mask: count for mask in by_count[count]})
    return texts


def levels(first, steps, combine):
    """The fewest things that combine to each value, one more step each time."""
    told, edge, count = dict(first), set(first), 1
    while edge:
        count += 1
        edge = {combine(one, other) for one in edge for other in steps} - set(told)
        told.update({value: count for value in edge})
    return told


def span_of_mask(cuts, mask):
    span = ()
    ends = cuts[1:] + [None]
    for k, cut in enumerate(cuts):
        if mask >> k & 1:
            span = joined(span, ((cut, ends[k]),))
    return span


class Writing(unittest.TestCase):
    def written(self, span):
        """The text, of plain terms alone, read as the span, with as many words as its price."""
        text = written(span)
        self.assertIs(type(text), str)
        for word in text.split(" "):
            self.assertTrue(word == "|" or PLAIN.fullmatch(word), text)
        self.assertEqual(read_span(text), span, text)
        self.assertEqual(words_in(text), price(span), text)
        self.assertEqual(prices(span)[0], price(span))
        return text

    def costs(self, text, count):
        span = read_span(text)
        self.assertIs(type(price(span)), int)
        self.assertEqual(price(span), count, text)
        self.written(span)


class TestOnePiece(Writing):
    def test_no_pieces_and_all(self):
        self.assertEqual(price(()), 1)
        self.assertEqual(written(()), "none")
        self.assertEqual(price(ALL), 1)
        self.written(ALL)

    def test_one_make_alone(self):
        for text in ("0.0.0-0", "0.0.0-0.0", "0.0.0", "0.0.1-0", "0.3.0", "1.0.0-a.2", "1.0.0", "7.8.9"):
            self.costs("=" + text, 1)

    def test_from_a_make_on_and_up_to_a_make(self):
        for text in ("0.0.0-0", "0.0.0-0.0", "0.0.0", "0.0.1-0", "1.0.0-a.2", "1.0.0"):
            for sign in (">=", ">", "<", "<="):
                self.costs(sign + text, 1)

    def test_ranges_of_one_word(self):
        for text in ("^1.2.3", "^1.0.0-a", "^0.2.3", "^0.2.3-b.1", "^0.0.3", "^0.0.3-a", "^0.0.0", "~1.2.3",
                     "~1.0.0-rc", "~0.0.3", "~0.2.3", "0", "1", "77", "0.0", "0.7", "1.0", "3.9"):
            self.costs(text, 1)

    def test_other_ranges(self):
        for text in ("[1.0.0,2.0.0)", "[1.0.0,2.0.0]", "(1.0.0,1.5.0)", ">=0.2.0 <1.0.0-0", ">=0.0.3 <0.2.0-0",
                     ">=1.0.0 <3.0.0-0", ">=1.0.0 <1.2.0-0", "(1.0.0,1.0.1-0.0]", "[1.0.0-a,1.0.0]"):
            self.costs(text, 2)


class TestHoles(Writing):
    def test_all_but_one_make(self):
        for text in ("0.0.0-0", "0.0.0", "1.0.0-a.2", "1.0.0", "7.8.9"):
            self.costs("!=" + text, 1)

    def test_all_but_several(self):
        self.costs("!=1.0.0 !=2.0.0", 2)
        self.costs("!=1.0.0 !=2.0.0 !=3.0.0-a", 3)
        self.costs("!=0.0.0-0 !=1.0.0 !=2.0.0", 3)
        self.costs(" ".join([f"!={k}.0.0" for k in range(1, 40)]), 39)

    def test_holes_side_by_side_in_all_makes(self):
        self.costs("!=1.0.0 !=1.0.1-0", 2)
        self.costs("!=1.0.0 !=1.0.1-0 !=1.0.1-0.0", 2)
        self.costs("<1.0.0 | >1.0.1-0.0.0", 2)
        self.costs("!=0.0.0-0 !=0.0.0-0.0 !=0.0.0-0.0.0", 1)

    def test_holes_in_a_range_of_one_word(self):
        self.costs("^1.0.0 !=1.5.0", 2)
        self.costs("^1.0.0 !=1.5.0 !=1.5.1-0", 3)
        self.costs("^1.0.0 !=1.5.0 !=1.5.1-0 !=1.5.1-0.0", 3)
        self.costs("^1.0.0 !=1.5.0 !=1.5.1-0 !=1.5.1-0.0 !=1.5.1-0.0.0", 3)
        self.costs("^1.0.0 !=1.5.0 !=1.6.0 !=1.7.0 !=1.8.0", 5)
        self.costs("~0.0.3 !=0.0.5", 2)
        self.costs("1.5 !=1.5.0", 2)
        self.costs("<5.0.0 !=3.0.0", 2)
        self.costs("<5.0.0 !=3.0.0 !=3.0.1-0", 3)
        self.costs("<5.0.0 !=3.0.0 !=3.0.1-0 !=3.0.1-0.0", 3)
        self.costs(">=5.0.0 !=7.0.0", 2)
        self.costs(">=5.0.0 !=7.0.0 !=7.0.1-0 !=7.0.1-0.0", 3)

    def test_holes_in_other_ranges(self):
        self.costs(">=1.0.0 <5.0.0 !=3.0.0", 3)
        self.costs(">=1.0.0 <5.0.0 !=3.0.0 !=3.0.1-0", 4)
        self.costs(">=1.0.0 <5.0.0 !=3.0.0 !=3.0.1-0 !=3.0.1-0.0", 4)
        self.costs(">=1.0.0 <5.0.0 !=3.0.0 !=3.0.1-0 !=3.0.1-0.0 !=3.0.1-0.0.0", 4)

    def test_a_hole_at_an_end(self):
        self.costs("^1.0.0 !=1.0.0", 1)
        self.costs("~0.3.0 !=0.3.0", 1)
        self.costs("1 !=1.0.0-0", 1)
        self.costs(">=1.0.0 !=1.0.0", 1)
        self.costs("<=1.0.0 !=1.0.0", 1)

    def test_pieces_of_one_word_beside_a_hole(self):
        self.costs("1 | 2 | 3", 2)
        self.costs("1 | =2.0.0", 2)
        self.costs("^1.0.0 | >2.0.0-0 <2.5.0", 3)
        self.costs("^1.0.0 | ^2.0.0-0.0.0", 2)
        self.costs("^1.0.0 | ^2.0.0-0.0", 2)
        self.costs("=1.0.0 | =1.0.1-0.0", 2)
        self.costs("~1.0.0 | ~1.1.0-0.0", 2)
        self.costs("~1.0.0 !=1.0.5 | ~1.1.0-0.0 !=1.1.7", 4)
        self.costs("^1.0.0 !=1.5.0 !=1.6.0 | ^2.0.0-0.0 !=2.5.0", 5)
        self.costs("^1.0.0 !=1.5.0 | >2.0.0-0 <2.7.0 !=2.5.0", 5)


class TestSeveralPieces(Writing):
    def test_apart(self):
        self.costs("1 | 3", 2)
        self.costs("1 | [3.0.0,4.0.0]", 3)
        self.costs("[1.0.0,2.0.0] | [3.0.0,4.0.0]", 4)
        self.costs("<1.0.0 | [3.0.0,4.0.0] | >5.0.0", 4)
        self.costs("=1.0.0 | =2.0.0 | ~3.1.0 | ^4.0.0 | >=6.0.0", 5)
        self.costs("<1.0.0 | =2.0.0 | =3.0.0 !=3.0.0", 2)

    def test_forty_pieces(self):
        self.assertEqual(price(forty(1, 2)), 80)
        self.written(forty(1, 2))
        singles = tuple([(make(k), next_make(make(k))) for k in range(1, 41)])
        self.assertEqual(price(singles), 40)
        self.written(singles)
        holes = less(ALL, singles[:39])
        self.assertEqual(len(holes), 40)
        self.assertEqual(price(holes), 39)
        self.written(holes)
        wide = tuple([(make(k, 0, 1, (0,) * 5), make(k + 1)) for k in range(1, 41)])
        self.assertEqual(price(wide), 80)
        self.written(wide)
        last = forty(1, 2)[:-1] + ((make(500), None),)
        self.assertEqual(price(last), 79)
        self.written(last)

    def test_more_than_forty_that_were_told_here(self):
        text = " ".join([f"!={k}.0.0" for k in range(1, 301)])
        self.costs(text, 300)
        self.costs(" | ".join([f"={k}.0.0" for k in range(1, 301)]), 300)

    def test_many_spans(self):
        chance = random.Random(14)
        row = [m(text) for text in ("0.0.0-0", "0.0.0", "0.0.4", "0.1.0-0", "0.2.5", "1.0.0-0", "1.0.0", "1.2.0",
                                    "2.0.0-a", "2.0.0", "3.0.0", "3.4.0", "4.0.0-0", "7.0.0")]
        for _ in range(4):
            row += [next_make(one) for one in row]
            row = oldest_first(row)
        for _ in range(300):
            edges = [one for one in row if chance.random() < 0.5][:chance.randint(0, 80)]
            ends = edges + [None]
            self.written(tuple([(edges[k], ends[k + 1]) for k in range(0, len(edges), 2)]))


class TestLeast(Writing):
    """Against all texts of plain terms that turn at few makes."""

    def least(self, *texts):
        cuts = oldest_first([OLDEST] + [m(text) for text in texts])
        told = least_words(cuts)
        self.assertEqual(len(told), 1 << len(cuts))
        for mask, count in told.items():
            span = span_of_mask(cuts, mask)
            self.assertEqual(price(span), count, span)
            self.assertEqual(prices(span), [price(span[k:]) for k in range(len(span) + 1)])
            text = self.written(span)
            for one in beside(cuts + makes_in(text)):
                self.assertEqual(in_text(one, text), lies(one, span), (text, one))

    def test_a_row_of_next_makes_in_a_great_number(self):
        self.least("1.0.0", "1.0.1-0", "1.0.1-0.0", "1.0.1-0.0.0", "1.0.1-0.0.0.0", "1.1.0-0", "2.0.0-0")

    def test_a_row_of_five_holes(self):
        self.least("1.0.0", "1.2.0", "1.2.1-0", "1.2.1-0.0", "1.2.1-0.0.0", "1.2.1-0.0.0.0", "2.0.0-0")

    def test_from_the_oldest_on(self):
        self.least("0.0.0-0.0", "0.0.0-0.0.0", "0.0.0", "0.0.1-0", "0.0.1", "0.1.0-0", "1.0.0-0")

    def test_ranges_beside_one_another(self):
        self.least("0.3.0-0", "0.4.0-0", "1.0.0-0", "1.1.0-0", "2.0.0-0", "2.0.0-0.0", "3.0.0-0")

    def test_ranges_with_ends_a_hole_apart(self):
        self.least("1.5.0", "2.0.0-0", "2.0.0-0.0", "2.0.0-0.0.0", "2.7.0", "2.7.1-0", "3.0.0-0")

    def test_ranges_of_middle_numbers_a_hole_apart(self):
        self.least("1.0.0", "1.1.0-0", "1.1.0-0.0", "1.2.0-0", "1.2.0-0.0", "1.3.0-0", "2.0.0-0")

    def test_small_numbers(self):
        self.least("0.0.3", "0.0.4-0", "0.0.4", "0.0.5-0", "0.1.0-0", "0.1.0", "0.1.1-0", "0.2.0-0")


class TestBounds(Writing):
    def test_the_ends_of_great_terms(self):
        great = str(10 ** 14 - 1)
        for text in (f"^{great}.0.0", f"^0.{great}.0", f"^0.0.{great}", f"~0.{great}.3", great, f"0.{great}",
                     f"=0.0.{great}", f"<={great}.{great}.{great}", f">0.0.{great}-{great}", f"!={great}.0.{great}"):
            self.costs(text, 1)
        self.costs(f">=1.0.0 <=5.0.0 | 5 | 6 | {great}", 3)

    def test_eleven_marks(self):
        for mark in ("0", "a", "7"):
            marked = "1.2.3-" + ".".join([mark] * 11)
            for sign in SIGNS:
                self.costs(sign + marked, 1)
            for text in (f"(1.0.0,{marked}]", f"({marked},1.5.0)"):
                self.costs(text, 2)

    def test_a_low_with_twelve_marks_that_was_told_here(self):
        marked = "1.2.3-" + ".".join(["a"] * 11)
        self.costs(f">{marked} <2.0.0-0", 1)
        self.costs(f">{marked} <1.3.0-0", 1)
        self.costs(f">{marked} <3.0.0-0", 2)

    def test_terms_have_no_more_marks_than_each_term_takes(self):
        marked = "1.2.3-" + ".".join(["a"] * 11)
        for text in (f"={marked}", f"!={marked}", f"<={marked}", f">{marked}", f"({marked},7.0.0]",
                     f"[1.0.0,{marked}]"):
            for word in written(read_span(text)).split(" "):
                self.assertLessEqual(word.count(".a"), 10)
                self.assertNotIn("a.0", word)


class TestPrices(Writing):
    def test_of_no_pieces(self):
        self.assertEqual(prices(()), [1])
        self.assertIs(type(prices(())), list)

    def test_for_each_number_of_pieces(self):
        self.assertEqual(prices(ALL), [1, 1])
        self.assertEqual(prices(read_span("1 | [3.0.0,4.0.0] | >5.0.0")), [4, 3, 1, 1])
        self.assertEqual(prices(read_span("!=1.0.0 !=2.0.0 !=3.0.0")), [3, 3, 2, 1, 1])
        self.assertEqual(prices(forty(1, 2)), [2 * (40 - k) for k in range(40)] + [1])

    def test_against_price(self):
        row = [m(text) for text in ("0.0.0-0", "1.0.0", "1.0.1-0", "2.0.0-0", "2.0.0-0.0", "3.0.0-0", "4.0.0")]
        for span in spans_over(row):
            told = prices(span)
            self.assertEqual(told, [price(span[k:]) for k in range(len(span) + 1)])
            self.assertEqual([type(count) for count in told], [int] * (len(span) + 1))

    def test_the_told_list_is_the_askers(self):
        span = read_span("1 | 3")
        told = prices(span)
        told[0] = "x"
        told.append(7)
        self.assertEqual(prices(span), [2, 1, 1])


class TestWordsIn(unittest.TestCase):
    def test_counts(self):
        for text, count in (("*", 1), ("none", 1), ("* *", 2), ("1 | 2", 2), ("* | * | *", 3), (">=1.0.0 <2.0.0", 2),
                            (">=1.0.0 <2.0.0 !=1.5.0 | 3 | =4.0.0 !=4.0.0", 6)):
            self.assertEqual(words_in(text), count, text)
            self.assertIs(type(words_in(text)), int)

    def test_brackets(self):
        for text, count in (("[,]", 1), ("[1.0.0,2.0.0)", 1), ("[1.0.0,2.0.0) | (3.0.0,]", 2),
                            ("(,4.0.0] !=1.0.0 | 7", 3)):
            self.assertEqual(words_in(text), count, text)

    def test_long_texts(self):
        self.assertEqual(words_in(" | ".join(["1"] * 2500)), 2500)
        self.assertEqual(words_in(" ".join(["*"] * 5000)), 5000)

    def test_each_word_where_it_stands(self):
        for parts in itertools.product(("1", "* <2.0.0", "[,]"), repeat=3):
            self.assertEqual(words_in(" | ".join(parts)), sum(len(part.split(" ")) for part in parts))


if __name__ == "__main__":
    unittest.main()
