"""Points 9 to 11: stretchbook.spans."""

import itertools
import random
import unittest

from stretchbook.makes import OLDEST, is_make, newest_first, next_make
from stretchbook.spans import ALL, is_span, joined, less, lies_in, met, parting
from tests.plain import edges_in, forty, lies, make, spans_over, stands_as_a_span

# Makes of every kind, the oldest first, with the next one of each among them.
SOME = [OLDEST, make(0), make(0, 0, 1, ("a",)), make(0, 3), make(1, 0, 0, (0,)), make(1, 0, 0, ("a",)),
        make(1, 0, 0, ("a", 1)), make(1), make(1, 0, 1), make(1, 2), make(2, 0, 0, (0,)), make(2), make(7)]
ROW = list(reversed(newest_first(list(dict.fromkeys(SOME + [next_make(one) for one in SOME])))))


def asked_about(*spans):
    """Each edge, the next make of each, and the oldest and a very new one: what
    lies between two edges lies as the older edge does, so these tell all."""
    edges = edges_in(spans)
    return list(dict.fromkeys(edges + [next_make(edge) for edge in edges] + [OLDEST, make(10 ** 12)]))


ONE, TWO, THREE, FOUR, FIVE, SIX = [make(k) for k in range(1, 7)]


class TestIsSpan(unittest.TestCase):
    def test_all(self):
        self.assertEqual(ALL, ((OLDEST, None),))
        self.assertIs(type(ALL), tuple)
        self.assertIs(is_span(ALL), True)

    def test_spans(self):
        for span in ((), ((ONE, None),), ((ONE, TWO),), ((ONE, TWO), (THREE, FOUR)),
                     ((ONE, TWO), (THREE, None)), ((OLDEST, next_make(OLDEST)),),
                     ((ONE, next_make(ONE)), (next_make(next_make(ONE)), TWO)),
                     ((make(1, 0, 0, ("a",)), ONE), (make(1, 0, 1), None)),
                     forty(1, 2), forty(1, 2)[:-1] + ((make(500), None),)):
            self.assertIs(is_span(span), True, span)

    def test_a_low_that_is_not_older_than_its_high(self):
        for span in (((ONE, ONE),), ((TWO, ONE),), ((OLDEST, OLDEST),), ((ONE, make(1, 0, 0, ("a",))),),
                     ((ONE, TWO), (THREE, THREE)), ((ONE, TWO), (FOUR, THREE)),
                     ((ONE, ONE), (THREE, FOUR)), ((TWO, ONE), (THREE, FOUR)),
                     ((make(1, 0, 0, ("a",)), make(1, 0, 0, (9,))),)):
            self.assertIs(is_span(span), False, span)

    def test_pieces_that_touch(self):
        for span in (((ONE, TWO), (TWO, THREE)), ((ONE, TWO), (TWO, None)),
                     ((ONE, TWO), (THREE, FOUR), (FOUR, FIVE))):
            self.assertIs(is_span(span), False, span)

    def test_pieces_that_lie_over_one_another(self):
        for span in (((ONE, THREE), (TWO, FOUR)), ((ONE, FOUR), (TWO, THREE)), ((ONE, TWO), (ONE, TWO)),
                     ((ONE, THREE), (TWO, None)), ((ONE, TWO), (ONE, THREE))):
            self.assertIs(is_span(span), False, span)

    def test_pieces_in_the_wrong_order(self):
        for span in (((THREE, FOUR), (ONE, TWO)), ((THREE, FOUR), (FIVE, SIX), (ONE, TWO)),
                     tuple(reversed(forty(1, 2)))):
            self.assertIs(is_span(span), False, span)

    def test_none_ahead_of_the_last_piece(self):
        for span in (((ONE, None), (TWO, THREE)), ((ONE, None), (TWO, None)), ((ONE, None), (ONE, None)),
                     ((THREE, None), (ONE, TWO)), ((ONE, TWO), (THREE, None), (FOUR, FIVE))):
            self.assertIs(is_span(span), False, span)

    def test_all_of_few_edges(self):
        makes = [OLDEST, ONE, next_make(ONE), TWO]
        pieces = list(itertools.product(makes, makes + [None]))
        for count in range(4):
            for thing in itertools.product(pieces, repeat=count):
                self.assertIs(is_span(thing), stands_as_a_span(thing), thing)


class TestLiesIn(unittest.TestCase):
    def test_no_pieces_and_all(self):
        for one in ROW:
            self.assertIs(lies_in(one, ()), False)
            self.assertIs(lies_in(one, ALL), True)

    def test_at_each_end_and_right_beside_it(self):
        low, high = make(1, 2, 3), make(2)
        span = ((low, high),)
        self.assertIs(lies_in(make(1, 2, 3, ("zzzzzzzz",) * 12), span), False)
        self.assertIs(lies_in(low, span), True)
        self.assertIs(lies_in(next_make(low), span), True)
        self.assertIs(lies_in(make(2, 0, 0, ("zzzzzzzz",) * 12), span), True)
        self.assertIs(lies_in(high, span), False)
        self.assertIs(lies_in(next_make(high), span), False)

    def test_forerunners_are_makes_like_others(self):
        span = ((make(1), make(2, 0, 0, (0,))),)
        self.assertIs(lies_in(make(1, 0, 0, ("a",)), span), False)
        self.assertIs(lies_in(make(1, 9, 9, ("a",)), span), True)
        self.assertIs(lies_in(make(2, 0, 0, (0,)), span), False)
        self.assertIs(lies_in(make(1, 10 ** 12), span), True)

    def test_one_make_alone(self):
        for one in ROW:
            span = ((one, next_make(one)),)
            for other in ROW:
                self.assertIs(lies_in(other, span), other == one, (other, one))

    def test_several_pieces(self):
        span = ((ONE, TWO), (THREE, FOUR), (SIX, None))
        for one, answer in ((OLDEST, False), (ONE, True), (make(1, 9), True), (TWO, False), (make(2, 9), False),
                            (THREE, True), (make(3, 9), True), (FOUR, False), (FIVE, False),
                            (make(6, 0, 0, (0,)), False), (SIX, True), (make(10 ** 12), True)):
            self.assertIs(lies_in(one, span), answer, one)

    def test_forty_pieces(self):
        for span in (forty(1, 2), forty(2, 3), forty(1, 2)[:-1] + ((make(79), None),), forty(1, 2)[:2]):
            for one in asked_about(span) + [make(k, 5) for k in range(130)]:
                self.assertIs(lies_in(one, span), lies(one, span), (one, span))

    def test_every_span_of_few_edges(self):
        for span in spans_over(ROW[3:9]):
            for one in ROW:
                self.assertIs(lies_in(one, span), lies(one, span), (one, span))


class TestTwoSpans(unittest.TestCase):
    def check(self, one, other):
        both, either, rest = met(one, other), joined(one, other), less(one, other)
        for span in (both, either, rest):
            self.assertTrue(stands_as_a_span(span), span)
            self.assertIs(is_span(span), True)
        unlike = False
        for asked in asked_about(one, other):
            first, second = lies(asked, one), lies(asked, other)
            self.assertEqual(lies(asked, both), first and second, (asked, one, other))
            self.assertEqual(lies(asked, either), first or second, (asked, one, other))
            self.assertEqual(lies(asked, rest), first and not second, (asked, one, other))
            unlike = unlike or first != second
        told = parting(one, other)
        self.assertEqual(told is not None, unlike, (one, other))
        if told is None:
            self.assertEqual(one, other)
        else:
            self.assertIs(is_make(told), True)
            self.assertNotEqual(lies(told, one), lies(told, other), (told, one, other))

    def told(self, one, other, both, either, rest, rest_other):
        self.assertEqual(met(one, other), both)
        self.assertEqual(met(other, one), both)
        self.assertEqual(joined(one, other), either)
        self.assertEqual(joined(other, one), either)
        self.assertEqual(less(one, other), rest)
        self.assertEqual(less(other, one), rest_other)
        self.check(one, other)
        self.check(other, one)

    def test_apart(self):
        self.told(((ONE, TWO),), ((THREE, FOUR),), (), ((ONE, TWO), (THREE, FOUR)), ((ONE, TWO),), ((THREE, FOUR),))

    def test_apart_by_one_make(self):
        behind = next_make(TWO)
        self.told(((ONE, TWO),), ((behind, FOUR),), (), ((ONE, TWO), (behind, FOUR)), ((ONE, TWO),), ((behind, FOUR),))

    def test_touching(self):
        self.told(((ONE, TWO),), ((TWO, FOUR),), (), ((ONE, FOUR),), ((ONE, TWO),), ((TWO, FOUR),))
        self.told(((ONE, TWO), (THREE, FOUR)), ((TWO, THREE),), (), ((ONE, FOUR),),
                  ((ONE, TWO), (THREE, FOUR)), ((TWO, THREE),))

    def test_over_one_another(self):
        self.told(((ONE, THREE),), ((TWO, FOUR),), ((TWO, THREE),), ((ONE, FOUR),), ((ONE, TWO),), ((THREE, FOUR),))
        self.told(((ONE, None),), ((OLDEST, FOUR),), ((ONE, FOUR),), ALL, ((FOUR, None),), ((OLDEST, ONE),))

    def test_one_in_the_other(self):
        self.told(((ONE, FOUR),), ((TWO, THREE),), ((TWO, THREE),), ((ONE, FOUR),), ((ONE, TWO), (THREE, FOUR)), ())
        self.told(((ONE, FOUR),), ((ONE, TWO),), ((ONE, TWO),), ((ONE, FOUR),), ((TWO, FOUR),), ())
        self.told(((ONE, FOUR),), ((THREE, FOUR),), ((THREE, FOUR),), ((ONE, FOUR),), ((ONE, THREE),), ())
        self.told(((ONE, None),), ((TWO, None),), ((TWO, None),), ((ONE, None),), ((ONE, TWO),), ())

    def test_alike(self):
        for span in ((), ALL, ((ONE, TWO),), ((ONE, None),), ((ONE, TWO), (THREE, None)), forty(1, 2)):
            alike = tuple([tuple(list(piece)) for piece in span])
            self.told(span, alike, span, span, (), ())
            self.assertIsNone(parting(span, alike))

    def test_with_no_pieces_and_with_all(self):
        for span in (((ONE, TWO),), ((ONE, None),), ((OLDEST, TWO),), ((ONE, TWO), (THREE, None)), forty(1, 2)):
            self.told(span, (), (), span, span, ())
            self.told(span, ALL, span, ALL, (), less(ALL, span))
            self.assertEqual(less(ALL, less(ALL, span)), span)
        self.told(ALL, (), (), ALL, ALL, ())
        self.assertEqual(less(ALL, ((ONE, TWO), (THREE, None))), ((OLDEST, ONE), (TWO, THREE)))
        self.assertEqual(less(ALL, ((OLDEST, TWO),)), ((TWO, None),))

    def test_a_hole_of_one_make(self):
        hole = ((TWO, next_make(TWO)),)
        self.assertEqual(less(((ONE, None),), hole), ((ONE, TWO), (next_make(TWO), None)))
        self.assertEqual(joined(((ONE, TWO), (next_make(TWO), None)), hole), ((ONE, None),))

    def test_forty_pieces(self):
        for other in (forty(2, 2), forty(1, 3), forty(2, 4), forty(60, 2), forty(200, 2)):
            self.check(forty(1, 2), other)
            self.check(other, forty(1, 2))
            self.check(less(ALL, other), forty(1, 2))
        self.assertEqual(joined(forty(1, 2), forty(2, 2)), ((ONE, make(81)),))
        self.assertEqual(len(joined(forty(1, 2), forty(201, 2))), 80)

    def test_a_great_span_that_was_told_is_handed_in_again(self):
        great = ()
        for k in range(50):
            great = joined(great, forty(1 + 100 * k, 2))
        self.assertEqual(len(great), 2000)
        self.assertIs(is_span(great), True)
        holes = less(ALL, great)
        self.assertEqual(len(holes), 2001)
        self.assertEqual(met(great, holes), ())
        self.assertEqual(joined(great, holes), ALL)
        self.assertIsNone(parting(less(ALL, holes), great))

    def test_every_pair_of_few_edges(self):
        spans = list(spans_over([OLDEST, make(1, 0, 0, ("a",)), ONE, next_make(ONE), TWO]))
        self.assertEqual(len(spans), 32)
        for one, other in itertools.product(spans, repeat=2):
            self.check(one, other)

    def test_many_pairs(self):
        chance = random.Random(7)
        for _ in range(150):
            picked = []
            for _ in range(2):
                edges = [one for one in ROW if chance.random() < 0.5]
                ends = edges + [None]
                picked.append(tuple([(edges[k], ends[k + 1]) for k in range(0, len(edges), 2)]))
            self.check(picked[0], picked[1])

    def test_parting(self):
        self.assertIsNone(parting((), ()))
        self.assertIsNone(parting(ALL, ((OLDEST, None),)))
        self.assertEqual(parting(((ONE, next_make(ONE)),), ()), ONE)
        self.assertEqual(parting((), ((ONE, next_make(ONE)),)), ONE)
        self.assertEqual(parting(((ONE, None),), ((ONE, TWO), (next_make(TWO), None))), TWO)

    def test_nothing_hangs_on_what_was_asked_before(self):
        one, other = ((ONE, THREE),), ((TWO, None),)
        first = (met(one, other), joined(one, other), less(one, other), parting(one, other) is None)
        for span in (ALL, (), forty(1, 2)):
            met(span, one)
            joined(span, other)
        self.assertEqual(first, (met(one, other), joined(one, other), less(one, other), parting(one, other) is None))
        self.assertEqual((one, other), (((ONE, THREE),), ((TWO, None),)))


if __name__ == "__main__":
    unittest.main()
