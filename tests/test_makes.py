"""Points 5 to 8: stretchbook.makes."""

import itertools
import random
import unittest

from stretchbook.makes import (
    OLDEST, is_make, is_older, newest_first, next_make, read_make, shown_make,
)

GREATEST = 10 ** 15 - 1

# Told by point 6, the oldest first; each is older than every one behind it.
ROW = [
    (0, 0, 0, (0,)),
    (0, 0, 0, (0, 0)),
    (0, 0, 0, (0, 0, 0)),
    (0, 0, 0, (0, 1)),
    (0, 0, 0, (0, 10)),
    (0, 0, 0, (0, "a")),
    (0, 0, 0, (1,)),
    (0, 0, 0, (2,)),
    (0, 0, 0, (10,)),
    (0, 0, 0, (GREATEST,)),
    (0, 0, 0, ("a",)),
    (0, 0, 0, ("a", 0)),
    (0, 0, 0, ("a", 9)),
    (0, 0, 0, ("a", 10)),
    (0, 0, 0, ("a", 10, "z")),
    (0, 0, 0, ("a", "a")),
    (0, 0, 0, ("aa",)),
    (0, 0, 0, ("ab",)),
    (0, 0, 0, ("b",)),
    (0, 0, 0, ("z",) * 11),
    (0, 0, 0, ("z",) * 12),
    (0, 0, 0, ("zzzzzzzz",)),
    (0, 0, 0, ()),
    (0, 0, 1, (0,)),
    (0, 0, 1, ()),
    (0, 0, 2, ("a",)),
    (0, 0, 2, ()),
    (0, 0, 10, ()),
    (0, 0, GREATEST, ()),
    (0, 1, 0, (0,)),
    (0, 1, 0, ()),
    (0, 2, 0, ()),
    (0, 10, 0, ()),
    (0, GREATEST, GREATEST, ()),
    (1, 0, 0, (0,)),
    (1, 0, 0, ("rc", 1)),
    (1, 0, 0, ()),
    (1, 0, 3, ("a", 2)),
    (1, 0, 3, ()),
    (2, 0, 0, ()),
    (10, 0, 0, ()),
    (GREATEST, 0, 0, ()),
    (GREATEST, GREATEST, GREATEST, ("a",)),
    (GREATEST, GREATEST, GREATEST, ()),
]


class TestIsMake(unittest.TestCase):
    def test_makes(self):
        for make in ROW:
            self.assertIs(is_make(make), True, make)

    def test_count_of_marks(self):
        for count in range(20):
            for mark in (0, "a"):
                self.assertIs(is_make((1, 2, 3, (mark,) * count)), count <= 12, count)
        self.assertIs(is_make((1, 2, 3, (0, "a") * 6)), True)
        self.assertIs(is_make((1, 2, 3, (0, "a") * 6 + (0,))), False)

    def test_what_stands_as_a_number(self):
        for number in (0, 1, 9, 10 ** 12, GREATEST):
            self.each_place(number, True)
            self.each_mark(number, True)
        for thing in (-1, -(10 ** 20), 10 ** 15, 10 ** 15 + 1, 10 ** 5000, True, False,
                      None, [], [1], (), (1,), {}, {1: 2}):
            self.each_place(thing, False)
            self.each_mark(thing, False)

    def test_texts_are_no_numbers(self):
        for text in ("", "0", "1", "a", "abc", "1.2"):
            self.each_place(text, False)

    def test_texts_among_the_marks(self):
        for text in ("a", "rc", "zzzzzzzz"):
            self.each_mark(text, True)
        for text in ("", "abcdefghi", "A", "0", "1", "a1", "a b", " a", "a\n", "a.b", "-"):
            self.each_mark(text, False)

    def each_place(self, thing, answer):
        for marks in ((), (0,), ("a", 2)):
            self.assertIs(is_make((thing, 2, 3, marks)), answer, thing)
            self.assertIs(is_make((1, thing, 3, marks)), answer, thing)
            self.assertIs(is_make((1, 2, thing, marks)), answer, thing)

    def each_mark(self, thing, answer):
        for ahead in ((), (0,), ("a", 1), ("b",) * 11):
            self.assertIs(is_make((1, 2, 3, ahead + (thing,))), answer, thing)
        for behind in ((0,), ("a", 1), ("b",) * 11):
            self.assertIs(is_make((1, 2, 3, (thing,) + behind)), answer, thing)


class TestOrder(unittest.TestCase):
    def test_each_pair_of_the_row_both_ways_about(self):
        for (k, one), (n, other) in itertools.product(enumerate(ROW), repeat=2):
            self.assertIs(is_older(one, other), k < n, (one, other))

    def test_a_make_against_itself(self):
        for make in ROW:
            alike = (make[0], make[1], make[2], tuple(list(make[3])))
            self.assertIs(is_older(make, alike), False, make)

    def test_the_earlier_number_tells_whatever_stands_behind(self):
        self.assertIs(is_older((1, 9, 9, ()), (2, 0, 0, (0,))), True)
        self.assertIs(is_older((1, 1, 9, ()), (1, 2, 0, (0,))), True)
        self.assertIs(is_older((1, 1, 1, ()), (1, 1, 2, (0,))), True)

    def test_the_first_unlike_mark_tells_whatever_stands_behind(self):
        self.assertIs(is_older((1, 0, 0, (1, "z", "z")), (1, 0, 0, (2,))), True)
        self.assertIs(is_older((1, 0, 0, (1, "z", "z")), (1, 0, 0, ("a",))), True)
        self.assertIs(is_older((1, 0, 0, ("a", "z", "z")), (1, 0, 0, ("b",))), True)

    def test_numbers_among_marks_count_as_numbers(self):
        self.assertIs(is_older((1, 0, 0, (9,)), (1, 0, 0, (10,))), True)
        self.assertIs(is_older((1, 0, 0, (10,)), (1, 0, 0, (9,))), False)


class TestNewestFirst(unittest.TestCase):
    def test_of_no_makes(self):
        self.assertEqual(newest_first([]), [])
        self.assertIsInstance(newest_first([]), list)

    def test_in_any_order(self):
        newest = list(reversed(ROW))
        self.assertEqual(newest_first(ROW), newest)
        self.assertEqual(newest_first(newest), newest)
        chance = random.Random(1)
        for _ in range(50):
            makes = list(ROW)
            chance.shuffle(makes)
            told = newest_first(makes)
            self.assertEqual(told, newest)
            self.assertIsInstance(told, list)

    def test_each_as_often_as_there(self):
        one, two, three = (1, 0, 0, ("a",)), (1, 0, 0, ()), (2, 0, 0, ())
        self.assertEqual(newest_first([one, two, one, three, one, two]),
                         [three, two, two, one, one, one])
        self.assertEqual(newest_first([one] * 400), [one] * 400)

    def test_the_list_handed_in_stays(self):
        makes = [(1, 0, 0, ()), (3, 0, 0, ()), (2, 0, 0, ())]
        before = list(makes)
        newest_first(makes)
        self.assertEqual(makes, before)

    def test_the_told_list_is_the_askers(self):
        makes = [(2, 0, 0, ()), (1, 0, 0, ())]
        told = newest_first(makes)
        self.assertIsNot(told, makes)
        told.append("x")
        told[0] = "y"
        self.assertEqual(makes, [(2, 0, 0, ()), (1, 0, 0, ())])
        self.assertEqual(newest_first(makes), [(2, 0, 0, ()), (1, 0, 0, ())])
        kept = newest_first(makes)
        makes.clear()
        self.assertEqual(kept, [(2, 0, 0, ()), (1, 0, 0, ())])


class TestNext(unittest.TestCase):
    def test_the_oldest(self):
        self.assertEqual(OLDEST, (0, 0, 0, (0,)))
        self.assertIs(is_make(OLDEST), True)
        for make in ROW:
            self.assertIs(is_older(make, OLDEST), False, make)

    def test_without_marks(self):
        self.assertEqual(next_make((1, 2, 3, ())), (1, 2, 4, (0,)))
        self.assertEqual(next_make((0, 0, 0, ())), (0, 0, 1, (0,)))
        self.assertEqual(next_make((1, 9, 9, ())), (1, 9, 10, (0,)))
        self.assertEqual(next_make((0, 0, GREATEST - 1, ())), (0, 0, GREATEST, (0,)))

    def test_with_marks(self):
        self.assertEqual(next_make(OLDEST), (0, 0, 0, (0, 0)))
        self.assertEqual(next_make((1, 2, 3, ("a", 2))), (1, 2, 3, ("a", 2, 0)))
        self.assertEqual(next_make((1, 2, 3, (9,) * 11)), (1, 2, 3, (9,) * 11 + (0,)))

    def test_of_a_next_one(self):
        self.assertEqual(next_make(next_make((1, 2, 3, ()))), (1, 2, 4, (0, 0)))
        self.assertEqual(next_make(next_make((1, 2, 3, ("b",)))), (1, 2, 3, ("b", 0, 0)))

    def test_it_is_the_oldest_of_all_that_are_newer(self):
        marks = [()]
        for count in (1, 2, 3):
            marks += itertools.product((0, 1, "a", "b"), repeat=count)
        makes = [(g, m, s, row) for g in (0, 1) for m in (0, 1) for s in (0, 1, 2) for row in marks]
        for make in makes:
            if make[2] < 2 and len(make[3]) < 3:
                following = next_make(make)
                self.assertIs(is_make(following), True)
                newer = [other for other in makes if is_older(make, other)]
                self.assertEqual(newest_first(newer)[-1], following, make)


class TestWritten(unittest.TestCase):
    PAIRS = [
        ("0.0.0", (0, 0, 0, ()), ()),
        ("0.0.0-0", (0, 0, 0, (0,)), ()),
        ("1.0.3", (1, 0, 3, ()), ()),
        ("1.0.3-a.2", (1, 0, 3, ("a", 2)), ()),
        ("1.0.3+mine", (1, 0, 3, ()), ("mine",)),
        ("1.0.3-a.2+mine", (1, 0, 3, ("a", 2)), ("mine",)),
        ("10.20.30-0.10.a.zzzzzzzz", (10, 20, 30, (0, 10, "a", "zzzzzzzz")), ()),
        ("1.2.3+a.b", (1, 2, 3, ()), ("a", "b")),
        ("1.2.3+a.a.a", (1, 2, 3, ()), ("a", "a", "a")),
        ("1.2.3-x+d.c.b.a", (1, 2, 3, ("x",)), ("d", "c", "b", "a")),
        ("999999999999999.999999999999999.999999999999999-999999999999999",
         (GREATEST, GREATEST, GREATEST, (GREATEST,)), ()),
        ("1.2.3-0.1.2.3.4.5.6.7.8.9.10.a+abcdefgh",
         (1, 2, 3, (0, 1, 2, 3, 4, 5, 6, 7, 8, 9, 10, "a")), ("abcdefgh",)),
    ]

    def test_pairs(self):
        for text, make, notes in self.PAIRS:
            self.assertEqual(shown_make(make, notes), text)
            self.assertEqual(read_make(text), (make, notes))

    def test_written_and_read_again(self):
        for make in ROW:
            for count in range(5):
                notes = ("x", "mine", "abcdefgh", "x")[:count]
                told = read_make(shown_make(make, notes))
                self.assertEqual(told, (make, notes))
                self.assertEqual([type(thing) for thing in told], [tuple, tuple])
                self.assertIs(is_make(told[0]), True)

    def test_the_kinds_of_what_is_read(self):
        make, notes = read_make("1.0.3-a.2+mine")
        self.assertIs(type(make), tuple)
        self.assertIs(type(make[3]), tuple)
        self.assertIs(type(notes), tuple)
        self.assertEqual([type(thing) for thing in make[:3] + make[3]], [int, int, int, str, int])

    def test_notes_turn_nothing_in_the_order(self):
        self.assertEqual(read_make("1.0.3+a")[0], read_make("1.0.3+b.c")[0])
        self.assertEqual(read_make("1.0.3-a+a")[0], read_make("1.0.3-a")[0])

    def none_is_told(self, *texts):
        for text in texts:
            self.assertIsNone(read_make(text), repr(text))

    def test_noughts_ahead(self):
        self.none_is_told("01.0.3", "1.00.3", "1.0.03", "1.0.3-01", "1.0.3-a.00", "00.0.0")

    def test_parts_left_out_or_too_many(self):
        self.none_is_told("", "1", "1.0", "1.0.", "1..3", ".0.3", "..", ".", "1.0.3.4", "1.0.3.",
                          ".1.0.3", "1-a", "1.0-a", "-a", "-", "+", "+mine", "-a+mine", "1.0+mine",
                          "1.0.3.a", "a", "none", "*")

    def test_too_great_numbers(self):
        self.none_is_told("1000000000000000.0.0", "0.1000000000000000.0", "0.0.1000000000000000",
                          "0.0.0-1000000000000000", "1.0." + "9" * 5000, "1.0.0-" + "9" * 5000)

    def test_too_many_marks_or_notes(self):
        self.none_is_told("1.0.3-" + ".".join("a" * 13), "1.0.3-" + ".".join("0" * 13),
                          "1.0.3+a.b.c.d.e", "1.0.3-a+a.b.c.d.e", "1.0.3-" + ".".join("a" * 4000))

    def test_empty_marks_and_notes(self):
        self.none_is_told("1.0.3-", "1.0.3+", "1.0.3-+", "1.0.3-a+", "1.0.3-+mine", "1.0.3-.",
                          "1.0.3-a.", "1.0.3-.a", "1.0.3-a..b", "1.0.3+a.", "1.0.3+.a", "1.0.3+a..b",
                          "1.0.3-a+.", "1.0.3+.")

    def test_signs_twice_or_in_the_wrong_order(self):
        self.none_is_told("1.0.3--a", "1.0.3-a-b", "1.0.3++a", "1.0.3+a+b", "1.0.3+a-b", "1.0.3+-a",
                          "-1.0.3", "+1.0.3", "1.-0.3", "1.0.+3", "1.0.3-+1", "1.0.3--1")

    def test_marks_and_notes_that_are_none(self):
        self.none_is_told("1.0.3-abcdefghi", "1.0.3-a1", "1.0.3-1a", "1.0.3-A", "1.0.3-a_b",
                          "1.0.3+1", "1.0.3+0", "1.0.3+a.1", "1.0.3+abcdefghi", "1.0.3+A", "1.0.3+a1")

    def test_any_other_sign_anywhere(self):
        text = "1.0.3-a.2+mine"
        others = [chr(code) for code in range(ord(" "), ord("~") + 1) if not chr(code).isalnum()]
        # A point, a - or a + may well part what stands there in another way.
        for sign in [other for other in others if other not in ".-+"] + ["\n", "A", "Z"]:
            for k in range(len(text) + 1):
                self.none_is_told(text[:k] + sign + text[k:])

    def test_blanks_and_line_feeds(self):
        for text in ("1.0.3", "1.0.3-a.2", "1.0.3+mine", "1.0.3-2"):
            self.none_is_told(" " + text, text + " ", "\n" + text, text + "\n", text + "\n\n",
                              text.replace(".", ". "), text + " " + text)


if __name__ == "__main__":
    unittest.main()
