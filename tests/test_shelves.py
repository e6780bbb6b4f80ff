"""Points 16 to 18: stretchbook.shelves."""

import itertools
import random
import unittest

from stretchbook.errors import NoLine, NoName, NoShelf, NoSpan, SpanError, Stuck
from stretchbook.makes import read_make
from stretchbook.reading import read_span
from stretchbook.shelves import is_shelf, makes_of, needs_of, read_shelf, shown_shelf
from stretchbook.spans import ALL
from tests.plain import forty, m, make

ONE, TWO, THREE = make(1), make(2), make(3)


def names(count, first="n"):
    """That many names, none of them twice."""
    return [first + "".join(pair) for pair in itertools.islice(itertools.product("abcdefg", repeat=2), count)]


def entries(count):
    return tuple([(name, ONE, ()) for name in names(count)])


def needs(count):
    return tuple([(name, ALL) for name in names(count)])


SHELF = (
    ("app", m("2.0.0"), (("lib", read_span("^1.0.0 !=1.5.0")), ("tool", read_span("none")))),
    ("lib", m("1.0.0-a.2"), ()),
    ("app", m("1.0.0"), (("lib", ALL),)),
    ("lib", m("1.5.1"), (("app", read_span(">=1.0.0 <3.0.0 | =4.0.0")),)),
    ("app", m("10.0.0"), ()),
)


class TestIsShelf(unittest.TestCase):
    def is_one(self, thing, answer):
        self.assertIs(is_shelf(thing), answer, thing)

    def test_no_entries(self):
        self.is_one((), True)

    def test_entries(self):
        self.is_one(SHELF, True)
        self.is_one(tuple(reversed(SHELF)), True)
        self.is_one((("a", ONE, (("b", ()),)),), True)
        self.is_one((("a", ONE, (("b", ALL), ("c", forty(1, 2)))), ("b", ONE, (("a", ALL),))), True)

    def test_forty_entries_and_more(self):
        for count in (1, 39, 40):
            self.is_one(entries(count), True)
            self.is_one(tuple([("a", make(k), ()) for k in range(count)]), True)
        for count in (41, 42, 49):
            self.is_one(entries(count), False)
            self.is_one(tuple([("a", make(k), ()) for k in range(count)]), False)

    def test_the_same_name_and_make_twice(self):
        self.is_one((("a", ONE, ()), ("a", make(1, 0, 0, ()), ())), False)
        self.is_one((("a", ONE, (("b", ALL),)), ("b", ONE, ()), ("a", ONE, ())), False)
        self.is_one(entries(39) + entries(1), False)
        self.is_one((("a", ONE, ()), ("a", TWO, ()), ("b", ONE, ())), True)
        self.is_one((("a", ONE, ()), ("a", make(1, 0, 0, (0,)), ())), True)

    def test_needs_of_one_name_twice(self):
        self.is_one((("a", ONE, (("b", ALL), ("b", ALL))),), False)
        self.is_one((("a", ONE, (("b", ALL), ("c", ALL), ("b", ()))),), False)
        self.is_one((("c", ONE, ()), ("a", ONE, (("b", ALL), ("b", ())))), False)
        self.is_one((("a", ONE, (("b", ALL),)), ("a", TWO, (("b", ALL),))), True)

    def test_a_need_of_the_own_name(self):
        self.is_one((("a", ONE, (("a", ALL),)),), False)
        self.is_one((("a", ONE, (("b", ALL), ("a", ()))),), False)
        self.is_one((("b", ONE, (("a", ALL),)), ("a", ONE, (("a", ALL),))), False)

    def test_forty_needs_and_more(self):
        for count in (0, 1, 39, 40):
            self.is_one((("a", ONE, needs(count)),), True)
        for count in (41, 42, 49):
            self.is_one((("a", ONE, needs(count)),), False)
            self.is_one((("b", ONE, ()), ("a", ONE, needs(count))), False)
        self.is_one(tuple([("a", make(k), needs(40)) for k in range(40)]), True)

    def test_names_that_are_none(self):
        for name in ("", "A", "aB", "abcdefghi", "a1", "1", "a b", " a", "a\n", "\n", "a.b", "-"):
            self.is_one(((name, ONE, ()),), False)
            self.is_one((("a", ONE, ()), (name, ONE, ())), False)
            self.is_one((("b", ONE, ((name, ALL),)),), False)
            self.is_one((("b", ONE, (("a", ALL), (name, ALL))),), False)
        for name in ("z", "abcdefgh", "part", "need", "none"):
            self.is_one(((name, ONE, (("a", ALL),)),), True)
            self.is_one((("a", ONE, ((name, ALL),)),), True)


class TestShown(unittest.TestCase):
    def test_lines(self):
        self.assertEqual(shown_shelf(()), [])
        self.assertEqual(shown_shelf((("a", m("1.0.0-b.2"), ()),)), ["part a 1.0.0-b.2"])
        lines = shown_shelf(SHELF)
        self.assertIs(type(lines), list)
        self.assertEqual([line.split(" ")[:2] for line in lines],
                         [["part", "app"], ["need", "lib"], ["need", "tool"], ["part", "lib"], ["part", "app"],
                          ["need", "lib"], ["part", "lib"], ["need", "app"], ["part", "app"]])
        self.assertEqual(lines[2], "need tool none")
        self.assertEqual([lines[k] for k in (0, 3, 4, 6, 8)],
                         ["part app 2.0.0", "part lib 1.0.0-a.2", "part app 1.0.0", "part lib 1.5.1",
                          "part app 10.0.0"])
        for k, text in ((1, "^1.0.0 !=1.5.0"), (5, "*"), (7, ">=1.0.0 <3.0.0 | =4.0.0")):
            told = lines[k].split(" ", 2)[2]
            self.assertEqual(read_span(told), read_span(text))
            self.assertEqual(len(told.split(" ")), len(text.split(" ")))

    def test_shown_and_read_again(self):
        for shelf in ((), SHELF, tuple(reversed(SHELF)), entries(40), (("a", ONE, needs(40)),),
                      (("part", ONE, (("need", ()),)),), (("a", ONE, (("b", forty(1, 2)), ("c", ()), ("d", ALL))),)):
            lines = shown_shelf(shelf)
            before = list(lines)
            self.assertEqual(read_shelf(lines), shelf)
            self.assertEqual(lines, before)

    def test_a_full_shelf(self):
        shelf = tuple([("a", make(k), needs(40)) for k in range(40)])
        lines = shown_shelf(shelf)
        self.assertEqual(len(lines), 40 * 41)
        self.assertEqual(read_shelf(lines), shelf)

    def test_many_shelves(self):
        chance = random.Random(17)
        spans = [read_span(text) for text in ("*", "none", "1", "0.2", "^1.2.3", "!=1.0.0 !=2.0.0",
                                              "[1.0.0,2.0.0) | >=4.0.0")]
        for _ in range(100):
            shelf = ()
            for name in names(chance.randint(0, 12)):
                picked = tuple([(need, chance.choice(spans)) for need in "xyz" if chance.random() < 0.5])
                shelf += ((name, make(chance.randint(0, 9)), picked),)
            self.assertEqual(read_shelf(shown_shelf(shelf)), shelf)

    def test_the_told_list_is_the_askers(self):
        lines = shown_shelf(SHELF)
        lines.clear()
        self.assertEqual(len(shown_shelf(SHELF)), 9)


class TestRead(unittest.TestCase):
    def test_ordinary_lines(self):
        shelf = read_shelf(["part app 2.0.0", "need lib ^1.0.0 !=1.5.0", "need tool *", "part lib 1.0.0-a.2",
                            "part app 1.0.0"])
        self.assertEqual(shelf, (("app", TWO, (("lib", read_span("^1.0.0 !=1.5.0")), ("tool", ALL))),
                                 ("lib", (1, 0, 0, ("a", 2)), ()), ("app", ONE, ())))
        self.assertIs(is_shelf(shelf), True)
        self.assertEqual([type(thing) for thing in (shelf, shelf[0], shelf[0][2], shelf[0][2][0])], [tuple] * 4)
        self.assertEqual(read_shelf([]), ())

    def test_other_words_for_a_span(self):
        for text in ("[1.0.0,2.0.0)", "[1.0.0,] | (,0.0.5]", "1 | 2 | 3 | none", "* | *", ">=1.0.0 <2.0.0 >0.0.0"):
            self.assertEqual(read_shelf(["part a 1.0.0", "need b " + text]), (("a", ONE, (("b", read_span(text)),)),))

    def test_names_like_words(self):
        self.assertEqual(read_shelf(["part part 1.0.0", "need need none", "part need 1.0.0", "need none *"]),
                         (("part", ONE, (("need", ()),)), ("need", ONE, (("none", ALL),))))

    def test_bounds_of_makes(self):
        for text in ("99999999999999.0.0", "1.0.0-" + ".".join("a" * 11), "0.0.0-0"):
            self.assertEqual(read_shelf(["part a " + text]), (("a", read_make(text)[0], ()),))

    def test_what_is_done_to_the_lines_later(self):
        lines = ["part a 1.0.0", "need b *"]
        shelf = read_shelf(lines)
        lines[0] = "part c 1.0.0"
        lines.append("x")
        self.assertEqual(shelf, (("a", ONE, (("b", ALL),)),))


class TestRefusals(unittest.TestCase):
    def refused(self, lines, place):
        before = list(lines)
        with self.assertRaises(NoShelf, msg=lines) as caught:
            read_shelf(lines)
        self.assertEqual(caught.exception.place, place, lines)
        self.assertIs(type(caught.exception.place), int)
        self.assertEqual(lines, before)

    def no_line(self, *lines):
        for line in lines:
            self.refused([line], 0)
            self.refused(["part a 1.0.0", line], 1)
            self.refused(["part a 1.0.0", "need b *", line, "x", "part a 1.0.0"], 2)

    def test_the_kind_of_refusal(self):
        with self.assertRaises(NoShelf) as caught:
            read_shelf(["part a 1.0.0", "need b x"])
        self.assertIsInstance(caught.exception, SpanError)
        self.assertIsInstance(caught.exception, ValueError)
        for other in (NoSpan, Stuck, NoName, NoLine):
            self.assertNotIsInstance(caught.exception, other)

    def test_lines_of_another_form(self):
        self.no_line("", " ", "\n", "x", "part", "need", "part ", "need ", "part a", "need c", "part a ", "need c ",
                     "part  1.2.0", "need  *", "part  c 1.2.0", "need  c *", " part c 1.2.0", " need c *",
                     "part c  1.2.0", "need c  *", "part c 1.2.0 ", "need c * ", "part c 1.2.0 *", "Part c 1.2.0",
                     "NEED c *", "parts c 1.2.0", "needs c *", "part\nc 1.2.0", "need c\n*", "part c 1.2.0\n",
                     "need c *\n", "shelf", "want c *", "c 1.2.0", "need c|*", "partc 1.2.0", "part 1.2.0 c",
                     "need * c", "part c 1.2.0\npart d 1.2.0")

    def test_names_that_are_none(self):
        self.no_line("part C 1.2.0", "part abcdefghi 1.2.0", "part c1 1.2.0", "part 1 1.2.0", "part c.d 1.2.0",
                     "part c, 1.2.0", "need C *", "need abcdefghi *", "need c1 *", "need 1 *", "need c.d *", "need * *")

    def test_makes_that_are_none(self):
        self.no_line("part c 1", "part c 1.2", "part c 1.2.3.4", "part c 01.2.3", "part c x", "part c 1.2.3-",
                     "part c 1.2.3-A", "part c =1.2.3", "part c *", "part c 1000000000000000.0.0",
                     "part c 1.2.3-" + ".".join("a" * 13))

    def test_makes_with_notes(self):
        self.no_line("part c 1.2.3+mine", "part c 1.2.3-a+mine.b", "part c 1.2.3+", "need c =1.2.3+mine")

    def test_spans_that_are_none(self):
        self.no_line("need c 1.0.0", "need c |", "need c * |", "need c | *", "need c * | | *", "need c x",
                     "need c [1.0.0, 2.0.0]", "need c ^", "need c 01", "need c *  *", "need c [1.0.0]", "need c none x")

    def test_a_need_ahead_of_the_first_part(self):
        self.refused(["need b *"], 0)
        self.refused(["need b *", "part a 1.0.0"], 0)

    def test_a_need_of_a_name_that_was_needed_or_of_the_own(self):
        self.refused(["part a 1.0.0", "need b *", "need b *"], 2)
        self.refused(["part a 1.0.0", "need b *", "need c *", "need b none"], 3)
        self.refused(["part a 1.0.0", "need a *"], 1)
        self.refused(["part b 1.0.0", "part a 1.0.0", "need b *", "need a *"], 3)
        self.assertEqual(len(read_shelf(["part a 1.0.0", "need b *", "part a 2.0.0", "need b *"])), 2)

    def test_a_part_and_make_that_stands_above(self):
        self.refused(["part a 1.0.0", "part a 1.0.0"], 1)
        self.refused(["part a 1.0.0", "need b *", "part b 1.0.0", "part a 2.0.0", "part a 1.0.0"], 4)

    def test_a_forty_first_part(self):
        lines = [f"part a {k}.0.0" for k in range(41)]
        self.refused(lines, 40)
        self.assertEqual(len(read_shelf(lines[:40])), 40)
        self.refused([line for k in range(41) for line in (f"part a {k}.0.0", "need b *")], 80)

    def test_a_forty_first_need(self):
        lines = ["part a 1.0.0"] + [f"need {name} *" for name in names(41)]
        self.refused(lines, 41)
        self.assertEqual(len(read_shelf(lines[:41])[0][2]), 40)
        self.refused(["part b 1.0.0"] + lines + ["part b 1.0.0"], 42)
        self.assertEqual(len(read_shelf(lines[:41] + ["part c 1.0.0"] + lines[1:41])), 2)

    def test_the_first_of_several(self):
        self.refused(["part a 1.0.0", "need b x", "need a *", "y"], 1)
        self.refused(["part a 1.0.0", "part a 1.0.0", "need a *"], 1)
        self.refused(["part a 1.0.0", "need a *", "part a 1.0.0"], 1)
        self.refused(["x", "need b *"], 0)
        self.refused(["need b *", "x"], 0)


class TestWhatStandsThere(unittest.TestCase):
    def test_makes_newest_first(self):
        self.assertEqual(makes_of(SHELF, "app"), [m("10.0.0"), m("2.0.0"), m("1.0.0")])
        self.assertEqual(makes_of(SHELF, "lib"), [m("1.5.1"), m("1.0.0-a.2")])
        shelf = read_shelf(["part a 1.0.0-a", "part b 9.0.0", "part a 1.0.0-2", "part a 1.0.0", "part a 1.0.1-0",
                            "part a 0.9.9"])
        self.assertEqual(makes_of(shelf, "a"),
                         [m(text) for text in ("1.0.1-0", "1.0.0", "1.0.0-a", "1.0.0-2", "0.9.9")])

    def test_a_name_that_is_not_there(self):
        self.assertEqual(makes_of(SHELF, "tool"), [])
        self.assertEqual(makes_of(SHELF, "ap"), [])
        self.assertEqual(makes_of((), "app"), [])

    def test_needs(self):
        self.assertEqual(needs_of(SHELF, "app", m("2.0.0")), SHELF[0][2])
        self.assertEqual(needs_of(SHELF, "app", m("1.0.0")), (("lib", ALL),))
        self.assertEqual(needs_of(SHELF, "app", m("10.0.0")), ())
        self.assertEqual(needs_of(SHELF, "lib", m("1.0.0-a.2")), ())
        self.assertEqual(needs_of(SHELF, "lib", m("1.5.1")), SHELF[3][2])
        self.assertIs(type(needs_of(SHELF, "app", m("10.0.0"))), tuple)
        one_make = (("a", ONE, (("c", ALL),)), ("b", ONE, (("d", ()),)), ("b", TWO, ()))
        self.assertEqual(needs_of(one_make, "b", ONE), (("d", ()),))

    def test_the_told_list_is_the_askers(self):
        told = makes_of(SHELF, "app")
        self.assertIs(type(told), list)
        told.clear()
        told.append("x")
        self.assertEqual(makes_of(SHELF, "app"), [m("10.0.0"), m("2.0.0"), m("1.0.0")])
        none = makes_of(SHELF, "tool")
        none.append("x")
        self.assertEqual(makes_of(SHELF, "tool"), [])


if __name__ == "__main__":
    unittest.main()
