"""Points 19 to 22, and point 4 of newer makes: stretchbook.books."""

import itertools
import random
import unittest

from stretchbook.books import broken, is_sound, is_tidy, lifted, newest
from stretchbook.errors import NoLine, NoName, NoShelf, NoSpan, SpanError, Stuck
from stretchbook.makes import is_older
from stretchbook.reading import read_span
from stretchbook.shelves import read_shelf
from tests.plain import (book, broken_plainly, forty, lifted_plainly, m, make, need, oldest_first, swapped,
                         tidy_plainly, wants)

SHELF = read_shelf([
    "part app 1.0.0", "need lib ^1.0.0", "need tool *",
    "part app 2.0.0", "need lib ^2.0.0", "need gone *",
    "part lib 1.0.0", "part lib 1.5.0", "need tool >=2.0.0", "part lib 2.0.0", "part lib 1.9.0-a",
    "part tool 1.0.0", "part tool 2.0.0", "need app <2.0.0", "part tool 3.0.0", "need app >=2.0.0",
])


class Books(unittest.TestCase):
    def each(self, shelf, wanted, taken):
        """What is told of any book, against the plain words."""
        told = broken(shelf, wanted, taken)
        self.assertEqual(told, broken_plainly(shelf, wanted, taken))
        self.assertIs(type(told), list)
        self.assertIs(is_sound(shelf, wanted, taken), not told)
        self.assertIs(is_tidy(shelf, wanted, taken), tidy_plainly(shelf, wanted, taken))
        return told

    def lifts(self, shelf, wanted, taken):
        """What is told of a sound book, against the plain words."""
        self.assertEqual(self.each(shelf, wanted, taken), [])
        for name, one in taken:
            self.newest(shelf, wanted, taken, name)
        told = lifted(shelf, wanted, taken)
        self.assertEqual(told, lifted_plainly(shelf, wanted, taken))
        self.assertEqual(broken_plainly(shelf, wanted, told), [])
        return told

    def newest(self, shelf, wanted, taken, name):
        told = newest(shelf, wanted, taken, name)
        self.assertEqual([type(told), len(told), type(told[1])], [tuple, 2, list])
        found, whys = told
        self.assertEqual(broken_plainly(shelf, wanted, swapped(taken, name, found)), [])
        makes = [entry[1] for entry in shelf if entry[0] == name]
        self.assertIn(found, makes)
        newer = [one for one in reversed(oldest_first(makes)) if is_older(found, one)]
        self.assertEqual([why[0] for why in whys], newer)
        for why in whys:
            self.assertEqual([type(why), len(why)], [tuple, 2])
            self.assertIn(why[1], broken_plainly(shelf, wanted, swapped(taken, name, why[0])))
        return told


class TestBroken(Books):
    def test_no_needs(self):
        self.assertEqual(self.each((), (), ()), [])
        self.assertEqual(self.each(SHELF, (), ()), [])
        self.assertEqual(self.each(SHELF, (), book("lib 1.0.0")), [])

    def test_a_name_that_lacks(self):
        self.assertEqual(self.each(SHELF, wants("app *"), ()), [need("", "app", "*")])
        self.assertEqual(self.each((), wants("x none"), ()), [need("", "x", "none")])
        self.assertEqual(self.each(SHELF, (), book("app 1.0.0")),
                         [need("app", "lib", "^1.0.0"), need("app", "tool", "*")])

    def test_a_make_that_does_not_lie_in_the_span(self):
        self.assertEqual(self.each(SHELF, wants("lib ^1.0.0"), book("lib 2.0.0")), [need("", "lib", "^1.0.0")])
        self.assertEqual(self.each(SHELF, wants("lib <1.9.0"), book("lib 1.9.0-a")), [])
        self.assertEqual(self.each(SHELF, wants("lib none"), book("lib 1.0.0")), [need("", "lib", "none")])
        self.assertEqual(self.each(SHELF, (), book("app 1.0.0 lib 2.0.0 tool 1.0.0")), [need("app", "lib", "^1.0.0")])
        self.assertEqual(self.each(SHELF, (), book("lib 1.5.0 tool 1.0.0")), [need("lib", "tool", ">=2.0.0")])

    def test_in_their_order(self):
        self.assertEqual(self.each(SHELF, wants("tool =3.0.0", "lib *", "gone *", "app >2.0.0"),
                                   book("app 2.0.0 lib 1.5.0 tool 1.0.0")),
                         [need("", "tool", "=3.0.0"), need("", "gone", "*"), need("", "app", ">2.0.0"),
                          need("app", "lib", "^2.0.0"), need("app", "gone", "*"), need("lib", "tool", ">=2.0.0")])

    def test_needs_of_the_make_that_is_taken_alone(self):
        self.assertEqual(self.each(SHELF, (), book("lib 1.0.0")), [])
        self.assertEqual(self.each(SHELF, (), book("tool 2.0.0")), [need("tool", "app", "<2.0.0")])
        self.assertEqual(self.each(SHELF, (), book("tool 3.0.0")), [need("tool", "app", ">=2.0.0")])

    def test_sound_books(self):
        for wanted, taken in ((wants("app *"), book("app 1.0.0 lib 1.0.0 tool 1.0.0")),
                              (wants("lib 1"), book("lib 1.9.0-a")),
                              (wants("app 1", "tool 2"), book("app 1.0.0 lib 1.5.0 tool 2.0.0"))):
            self.assertEqual(self.each(SHELF, wanted, taken), [])
            self.assertIs(is_sound(SHELF, wanted, taken), True)

    def test_unsound_books(self):
        for wanted, taken in ((wants("app *"), ()), (wants("lib 1"), book("lib 2.0.0")), ((), book("app 1.0.0")),
                              (wants("app 1"), book("app 1.0.0 lib 1.5.0 tool 1.0.0"))):
            self.assertNotEqual(self.each(SHELF, wanted, taken), [])
            self.assertIs(is_sound(SHELF, wanted, taken), False)

    def test_the_told_list_is_the_askers(self):
        told = broken(SHELF, wants("app *"), ())
        told.clear()
        self.assertEqual(broken(SHELF, wants("app *"), ()), [need("", "app", "*")])


class TestTidy(Books):
    RING = read_shelf(["part a 1.0.0", "need b *", "part b 1.0.0", "need c *", "part c 1.0.0", "need d *",
                       "part d 1.0.0", "part x 1.0.0", "need y *", "part y 1.0.0", "need z *", "part z 1.0.0",
                       "need x *", "need d *", "part a 2.0.0"])

    def tidy(self, shelf, wanted, text, answer):
        self.assertIs(is_tidy(shelf, wanted, book(text)), answer, text)
        self.each(shelf, wanted, book(text))

    def test_no_names(self):
        self.tidy(self.RING, (), "", True)
        self.tidy(self.RING, wants("a *"), "", True)
        self.tidy((), (), "", True)

    def test_wanted_names(self):
        self.tidy(self.RING, wants("d *"), "d 1.0.0", True)
        self.tidy(self.RING, wants("d none"), "d 1.0.0", True)
        self.tidy(self.RING, (), "d 1.0.0", False)
        self.tidy(self.RING, wants("c *"), "d 1.0.0", False)
        self.tidy(self.RING, wants("d *"), "c 1.0.0 d 1.0.0", False)

    def test_in_several_steps(self):
        self.tidy(self.RING, wants("a *"), "a 1.0.0 b 1.0.0 c 1.0.0 d 1.0.0", True)
        self.tidy(self.RING, wants("b *"), "a 1.0.0 b 1.0.0 c 1.0.0 d 1.0.0", False)
        self.tidy(self.RING, wants("z *"), "d 1.0.0 x 1.0.0 y 1.0.0 z 1.0.0", True)
        self.tidy(self.RING, wants("x *"), "d 1.0.0 x 1.0.0 y 1.0.0 z 1.0.0", True)

    def test_a_step_that_the_book_lacks(self):
        self.tidy(self.RING, wants("a *"), "a 1.0.0 c 1.0.0 d 1.0.0", False)
        self.tidy(self.RING, wants("b *"), "c 1.0.0 d 1.0.0", False)
        self.tidy(self.RING, wants("a *"), "a 2.0.0 b 1.0.0", False)

    def test_a_ring_that_is_not_reached(self):
        self.tidy(self.RING, wants("a *"), "a 1.0.0 b 1.0.0 c 1.0.0 d 1.0.0 x 1.0.0 y 1.0.0 z 1.0.0", False)
        self.tidy(self.RING, (), "x 1.0.0 y 1.0.0 z 1.0.0", False)
        self.tidy(self.RING, wants("a *", "y *"), "a 1.0.0 b 1.0.0 c 1.0.0 d 1.0.0 x 1.0.0 y 1.0.0 z 1.0.0", True)

    def test_a_need_that_is_broken_reaches_too(self):
        shelf = read_shelf(["part a 1.0.0", "need b none", "part b 1.0.0"])
        self.tidy(shelf, wants("a *"), "a 1.0.0 b 1.0.0", True)


class TestNewest(Books):
    def told(self, shelf, wanted, text, name, found, whys):
        told = self.newest(shelf, wanted, book(text), name)
        self.assertEqual(told, (m(found), [(m(other), why) for other, why in whys]))
        self.lifts(shelf, wanted, book(text))

    def test_the_newest_make_stays_sound(self):
        shelf = read_shelf(["part a 1.0.0", "part a 3.0.0", "part a 2.0.0", "part a 3.0.0-b"])
        for taken in ("a 1.0.0", "a 2.0.0", "a 3.0.0-b", "a 3.0.0"):
            self.told(shelf, wants("a *"), taken, "a", "3.0.0", [])
            self.told(shelf, (), taken, "a", "3.0.0", [])

    def test_a_want_stands_against_it(self):
        shelf = read_shelf(["part a 1.0.0", "part a 1.4.0", "part a 1.6.0", "part a 2.0.0"])
        self.told(shelf, wants("a ^1.0.0"), "a 1.0.0", "a", "1.6.0", [("2.0.0", need("", "a", "^1.0.0"))])
        self.told(shelf, wants("a <=1.4.0"), "a 1.0.0", "a", "1.4.0",
                  [("2.0.0", need("", "a", "<=1.4.0")), ("1.6.0", need("", "a", "<=1.4.0"))])
        self.told(shelf, wants("a =1.0.0"), "a 1.0.0", "a", "1.0.0",
                  [(text, need("", "a", "=1.0.0")) for text in ("2.0.0", "1.6.0", "1.4.0")])

    def test_another_entry_stands_against_it(self):
        shelf = read_shelf(["part a 1.0.0", "part a 2.0.0", "part b 1.0.0", "need a <2.0.0", "part b 2.0.0"])
        self.told(shelf, wants("b *"), "a 1.0.0 b 1.0.0", "a", "1.0.0", [("2.0.0", need("b", "a", "<2.0.0"))])
        self.told(shelf, wants("b *"), "a 1.0.0 b 2.0.0", "a", "2.0.0", [])
        self.told(shelf, wants("b *"), "a 1.0.0 b 1.0.0", "b", "2.0.0", [])

    def test_its_own_needs_stand_against_it(self):
        shelf = read_shelf(["part a 1.0.0", "part a 2.0.0", "need b >=2.0.0", "part a 3.0.0", "need c *",
                            "part b 1.0.0"])
        self.told(shelf, wants("a *", "b *"), "a 1.0.0 b 1.0.0", "a", "1.0.0",
                  [("3.0.0", need("a", "c", "*")), ("2.0.0", need("a", "b", ">=2.0.0"))])

    def test_whys_of_each_kind_in_their_order(self):
        shelf = read_shelf(["part a 2.0.0", "need x *", "part a 1.0.0", "part a 4.0.0", "part a 3.0.0", "part b 1.0.0",
                            "need a !=3.0.0"])
        self.told(shelf, wants("a <4.0.0"), "a 1.0.0 b 1.0.0", "a", "1.0.0",
                  [("4.0.0", need("", "a", "<4.0.0")), ("3.0.0", need("b", "a", "!=3.0.0")),
                   ("2.0.0", need("a", "x", "*"))])

    def test_a_make_between_that_is_no_good(self):
        shelf = read_shelf(["part a 1.0.0", "part a 2.0.0", "need x *", "part a 3.0.0"])
        self.told(shelf, wants("a *"), "a 1.0.0", "a", "3.0.0", [])
        self.told(shelf, wants("a <3.0.0"), "a 1.0.0", "a", "1.0.0",
                  [("3.0.0", need("", "a", "<3.0.0")), ("2.0.0", need("a", "x", "*"))])

    def test_never_an_older_one(self):
        shelf = read_shelf(["part a 1.0.0", "part a 2.0.0", "part a 3.0.0"])
        self.told(shelf, wants("a !=3.0.0"), "a 2.0.0", "a", "2.0.0", [("3.0.0", need("", "a", "!=3.0.0"))])

    def test_no_name(self):
        for taken, name in (((), "a"), (book("lib 1.0.0"), "app"), (book("lib 1.0.0"), "li"),
                            (book("lib 1.0.0"), "zz")):
            with self.assertRaises(NoName) as caught:
                newest(SHELF, (), taken, name)
            self.assertIsInstance(caught.exception, SpanError)
            for other in (NoSpan, NoShelf, Stuck, NoLine):
                self.assertNotIsInstance(caught.exception, other)

    def test_the_told_list_is_the_askers(self):
        shelf = read_shelf(["part a 1.0.0", "part a 2.0.0"])
        told = newest(shelf, wants("a 1"), book("a 1.0.0"), "a")
        told[1].clear()
        self.assertEqual(newest(shelf, wants("a 1"), book("a 1.0.0"), "a"),
                         (m("1.0.0"), [(m("2.0.0"), need("", "a", "1"))]))


class TestLifted(Books):
    def told(self, lines, wanted, before, behind):
        self.assertEqual(self.lifts(read_shelf(lines), wanted, book(before)), book(behind))

    def test_nothing_is_newer(self):
        self.told([], (), "", "")
        self.told(["part a 1.0.0", "part b 1.0.0"], wants("a *"), "a 1.0.0", "a 1.0.0")
        self.told(["part a 1.0.0", "part a 2.0.0"], wants("a 1"), "a 1.0.0", "a 1.0.0")
        self.told(["part a 1.0.0", "part a 2.0.0"], wants("a *"), "a 2.0.0", "a 2.0.0")

    def test_each_name(self):
        self.told(["part a 1.0.0", "part a 2.0.0", "part b 1.0.0", "part b 1.0.0-a"], wants("a *", "b *"),
                  "a 1.0.0 b 1.0.0-a", "a 2.0.0 b 1.0.0")

    def test_one_lift_lets_another_one_lift(self):
        lines = ["part a 1.0.0", "part a 2.0.0", "need b >=2.0.0", "part b 1.0.0", "part b 2.0.0"]
        self.told(lines, wants("a *", "b *"), "a 1.0.0 b 1.0.0", "a 2.0.0 b 2.0.0")
        lines = ["part a 1.0.0", "need b 1", "part a 2.0.0", "part b 1.0.0", "part b 2.0.0"]
        self.told(lines, wants("a *"), "a 1.0.0 b 1.0.0", "a 2.0.0 b 2.0.0")

    def test_one_lift_by_turns(self):
        lines = ["part a 1.0.0", "need b 1", "part a 2.0.0", "need b 1 | 2", "part a 3.0.0", "need b 2 | 3",
                 "part a 4.0.0", "need b 3", "part b 1.0.0", "part b 2.0.0", "part b 3.0.0"]
        self.told(lines, wants("a *"), "a 1.0.0 b 1.0.0", "a 4.0.0 b 3.0.0")

    def test_the_order_counts(self):
        lines = ["part a 1.0.0", "part a 2.0.0", "need b 1", "part b 1.0.0", "part b 2.0.0", "need a 1"]
        self.told(lines, wants("a *", "b *"), "a 1.0.0 b 1.0.0", "a 2.0.0 b 1.0.0")
        lines = ["part b 1.0.0", "part b 2.0.0", "need a 1", "part a 1.0.0", "part a 2.0.0", "need b 1", "need c 2",
                 "part c 1.0.0", "part c 2.0.0"]
        self.told(lines, wants("a *", "b *", "c *"), "a 1.0.0 b 1.0.0 c 1.0.0", "a 1.0.0 b 2.0.0 c 2.0.0")

    def test_again_from_the_first_name_on(self):
        # Behind b's lift a is asked again, ahead of c: its 3.0.0 needs c as it is.
        lines = ["part a 1.0.0", "part a 3.0.0", "need b 2", "need c 1", "part b 1.0.0", "part b 2.0.0", "part c 1.0.0",
                 "part c 2.0.0"]
        self.told(lines, wants("a *", "b *", "c *"), "a 1.0.0 b 1.0.0 c 1.0.0", "a 3.0.0 b 2.0.0 c 1.0.0")

    def test_nothing_handed_in_is_changed(self):
        taken = book("a 1.0.0")
        shelf = read_shelf(["part a 1.0.0", "part a 2.0.0"])
        self.assertEqual(lifted(shelf, (), taken), book("a 2.0.0"))
        self.assertEqual(taken, book("a 1.0.0"))
        self.assertIs(type(lifted(shelf, (), taken)), tuple)
        self.assertEqual([type(pair) for pair in lifted(shelf, (), taken)], [tuple])


class TestManyBooks(Books):
    SPANS = ["*", "*", "none", "1", "2", "1 | 2", "^1.0.0", "!=2.0.0", ">=2.0.0", "<3.0.0", "<=1.5.0",
             "=1.0.0 | =3.0.0", ">1.0.0 !=3.0.0"]
    MAKES = ["1.0.0", "1.5.0", "2.0.0-a", "2.0.0", "3.0.0"]

    def shelf(self, chance):
        lines = []
        for name in "abcd":
            for text in chance.sample(self.MAKES, chance.randint(1, 4)):
                lines.append(f"part {name} {text}")
                for other in "abcde":
                    if other != name and chance.random() < 0.25:
                        lines.append(f"need {other} {chance.choice(self.SPANS)}")
        return read_shelf(lines)

    def books_of(self, shelf):
        rows = [[None] + [entry[1] for entry in shelf if entry[0] == name] for name in "abcd"]
        for picked in itertools.product(*rows):
            yield tuple([(name, one) for name, one in zip("abcd", picked) if one is not None])

    def test_against_the_plain_words(self):
        chance = random.Random(19)
        sound = 0
        for _ in range(60):
            shelf = self.shelf(chance)
            spans = [read_span(text) for text in self.SPANS[:2] + self.SPANS[5:]]
            wanted = tuple([(name, chance.choice(spans)) for name in "dbca" if chance.random() < 0.5])
            for taken in self.books_of(shelf):
                if self.each(shelf, wanted, taken) == []:
                    self.lifts(shelf, wanted, taken)
                    sound += 1
        self.assertGreater(sound, 200)

    def test_forty_of_all(self):
        names = ["n" + one + other for one in "abcde" for other in "abcd"]
        needs = {name: tuple([(other, forty(1, 2)) for other in names if other != name]) for name in names}
        parts = [(name, make(great), needs[name]) for name in names for great in (1, 3)]
        wanted = tuple([(name, forty(1, 2)) for name in names])
        before = tuple([(name, make(1)) for name in names])
        self.assertEqual(broken(tuple(parts), wanted, before), [])
        self.assertEqual(lifted(tuple(parts), wanted, before), tuple([(name, make(3)) for name in names]))


if __name__ == "__main__":
    unittest.main()
