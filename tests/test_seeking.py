"""Points 23 to 25, and point 4 of first books: stretchbook.seeking."""

import random
import time
import unittest

from stretchbook.makes import is_older
from stretchbook.seeking import sought
from stretchbook.shelves import read_shelf
from stretchbook.spans import ALL
from tests.plain import (book, broken_plainly, every_book, first_book, forty, m, make, makes_on, random_shelf, shows,
                         tidy_plainly, wants)


class Seeking(unittest.TestCase):
    def each(self, shelf, wanted):
        """What is told, against the plain words of 23 to 25."""
        told = sought(shelf, wanted)
        self.assertIs(type(told), tuple)
        first = first_book(shelf, wanted)
        if first is None:
            self.assertEqual([len(told), told[0]], [2, "stuck"])
            self.assertTrue(shows(shelf, wanted, (), told[1]), told)
        else:
            self.assertEqual([len(told), told[0], told[1]], [3, "book", first])
            self.assertEqual(broken_plainly(shelf, wanted, first), [])
            self.assertTrue(tidy_plainly(shelf, wanted, first))
            self.steps(shelf, wanted, told)
        return told

    def steps(self, shelf, wanted, told):
        _, taken, steps = told
        self.assertIs(type(steps), list)
        self.assertEqual([type(thing) for thing in [taken] + list(taken) + steps], [tuple] * (1 + 2 * len(taken)))
        choices = ()
        for name, one, papers in steps:
            self.assertIs(type(papers), tuple)
            self.assertEqual(name, self.least_open(shelf, wanted, choices))
            self.assertEqual([made for made, _ in papers],
                             [made for made in makes_on(shelf, name) if is_older(one, made)])
            for row in papers:
                self.assertEqual([type(row), len(row)], [tuple, 2])
                self.assertTrue(shows(shelf, wanted, choices + ((name, row[0]),), row[1]), row)
            choices += ((name, one),)
        self.assertEqual(tuple(sorted(choices)), taken)

    def least_open(self, shelf, wanted, choices):
        chosen = dict(choices)
        names = [name for name, _ in wanted]
        for name, one, needs in shelf:
            if chosen.get(name) == one:
                names += [needed for needed, _ in needs]
        return min(name for name in names if name not in chosen)

    def found(self, lines, wanted, taken):
        told = self.each(read_shelf(lines), wanted)
        self.assertEqual(told[:2], ("book", book(taken)))
        return told[2]

    def stuck(self, lines, wanted):
        told = self.each(read_shelf(lines), wanted)
        self.assertEqual(told[0], "stuck")
        return told[1]


class TestFirstBook(Seeking):
    def test_no_wants(self):
        for lines in ([], ["part a 1.0.0", "need b *"]):
            self.assertEqual(sought(read_shelf(lines), ()), ("book", (), []))
            self.assertEqual(self.found(lines, (), ""), [])

    def test_a_want_of_a_name_that_is_not_there(self):
        self.assertEqual(self.stuck([], wants("a *")), ("open", "a", "", ()))
        self.assertEqual(self.stuck(["part b 1.0.0"], wants("a *")), ("open", "a", "", ()))
        self.stuck(["part b 1.0.0"], wants("b *", "a *"))
        self.stuck(["part b 1.0.0", "part b 2.0.0"], wants("a *", "b *", "c none"))

    def test_a_want_that_holds_no_make_of_the_name(self):
        lines = ["part a 1.0.0", "part a 2.0.0"]
        for text in (">2.0.0", "none", "<1.0.0", ">1.0.0 <2.0.0"):
            broken = ("broken", "", "a", wants("a " + text)[0][1])
            self.assertEqual(self.stuck(lines, wants("a " + text)),
                             ("open", "a", "", ((m("2.0.0"), broken), (m("1.0.0"), broken))))

    def test_the_newest_make_that_leads_to_a_book(self):
        lines = ["part a 1.0.0", "part a 3.0.0", "part a 2.0.0", "part a 3.0.0-b"]
        self.assertEqual(self.found(lines, wants("a *"), "a 3.0.0"), [("a", m("3.0.0"), ())])
        self.found(lines, wants("a <3.0.0"), "a 3.0.0-b")
        self.found(lines, wants("a 1 | 2"), "a 2.0.0")
        self.found(lines, wants("a <=1.0.0"), "a 1.0.0")

    def test_an_older_one_where_the_newest_does_not(self):
        lines = ["part a 2.0.0", "need b >=2.0.0", "part a 1.0.0", "need b *", "part b 1.0.0"]
        self.found(lines, wants("a *"), "a 1.0.0 b 1.0.0")
        lines = ["part a 2.0.0", "need gone *", "part a 1.0.0"]
        self.found(lines, wants("a *"), "a 1.0.0")
        lines = ["part a 1.0.0", "part b 1.0.0", "part b 2.0.0", "need a >1.0.0"]
        self.found(lines, wants("a *", "b *"), "a 1.0.0 b 1.0.0")

    def test_a_clash_several_names_later(self):
        lines = ["part a 1.0.0", "need b *", "part a 2.0.0", "need b *", "part b 1.0.0", "need c *", "part b 2.0.0",
                 "need c *", "part c 1.0.0", "need d *", "part c 2.0.0", "need d *", "part d 1.0.0", "need a =1.0.0",
                 "part d 2.0.0", "need a <=1.0.0"]
        self.found(lines, wants("a *"), "a 1.0.0 b 2.0.0 c 2.0.0 d 2.0.0")
        self.found(lines, wants("a *", "c 1", "d 1"), "a 1.0.0 b 2.0.0 c 1.0.0 d 1.0.0")
        self.stuck(lines, wants("a 2"))
        self.stuck(lines, wants("d *", "a >1.0.0"))

    def test_a_choice_between_is_kept_where_the_clash_is_not_its_own(self):
        # b and c stay newest, though a's turn is found only behind them.
        lines = ["part a 2.0.0", "need d 2", "part a 1.0.0", "need d 1", "part b 1.0.0", "part b 2.0.0", "part c 1.0.0",
                 "part c 2.0.0", "need d 1", "part c 3.0.0", "need b 1", "part d 1.0.0", "part d 2.0.0", "need b 3"]
        self.found(lines, wants("a *", "b *", "c *"), "a 1.0.0 b 2.0.0 c 2.0.0 d 1.0.0")

    def test_the_least_name_and_not_the_first_one_told(self):
        lines = ["part a 1.0.0", "part a 2.0.0", "need b 1", "part b 1.0.0", "part b 2.0.0", "need a 1"]
        steps = self.found(lines, wants("b *", "a *"), "a 2.0.0 b 1.0.0")
        self.assertEqual([step[0] for step in steps], ["a", "b"])
        self.found(lines, wants("a *", "b *"), "a 2.0.0 b 1.0.0")

    def test_the_least_name_and_not_the_one_opened_first(self):
        lines = ["part c 1.0.0", "need b *", "part d 1.0.0", "need a *", "part b 1.0.0", "part a 1.0.0"]
        for wanted in (wants("d *", "c *"), wants("c *", "d *")):
            steps = self.found(lines, wanted, "a 1.0.0 b 1.0.0 c 1.0.0 d 1.0.0")
            self.assertEqual([step[0] for step in steps], ["c", "b", "d", "a"])

    def test_names_that_are_beginnings_of_one_another(self):
        lines = ["part ab 1.0.0", "need aab *", "part a 1.0.0", "need abc *", "part aa 1.0.0", "part abc 1.0.0",
                 "part aab 1.0.0", "part abcdefgh 1.0.0"]
        steps = self.found(lines, wants("abcdefgh *", "ab *", "aa *", "a *"),
                           "a 1.0.0 aa 1.0.0 aab 1.0.0 ab 1.0.0 abc 1.0.0 abcdefgh 1.0.0")
        self.assertEqual([step[0] for step in steps], ["a", "aa", "ab", "aab", "abc", "abcdefgh"])
        self.found(lines, wants("aa *"), "aa 1.0.0")
        self.stuck(lines, wants("abcd *"))

    def test_needs_in_a_ring(self):
        lines = ["part a 1.0.0", "need b *", "part b 1.0.0", "need c *", "part c 1.0.0", "need a *"]
        for name in "abc":
            self.found(lines, wants(name + " *"), "a 1.0.0 b 1.0.0 c 1.0.0")
        lines = ["part a 1.0.0", "need b 1", "part a 2.0.0", "need b 2", "part b 1.0.0", "need a 2", "part b 2.0.0",
                 "need a 1"]
        self.stuck(lines, wants("a *"))
        self.stuck(lines, wants("b *"))
        self.found(lines + ["part b 2.5.0", "need a 2"], wants("b *"), "a 2.0.0 b 2.5.0")

    def test_only_what_is_reached(self):
        lines = ["part a 1.0.0", "need b *", "part a 2.0.0", "part b 1.0.0", "part c 1.0.0", "need gone *"]
        self.found(lines, wants("a *"), "a 2.0.0")
        self.found(lines, wants("a 1"), "a 1.0.0 b 1.0.0")

    def test_forerunners(self):
        lines = ["part a 1.0.0-b", "part a 1.0.0-2", "part a 0.9.0"]
        self.found(lines, wants("a *"), "a 1.0.0-b")
        self.found(lines, wants("a <1.0.0-b"), "a 1.0.0-2")
        self.found(lines, wants("a <1.0.0-0"), "a 0.9.0")

    def test_a_name_that_several_need(self):
        lines = ["part a 1.0.0", "need x 1 | 2 | 3", "part b 1.0.0", "need x 2 | 3 | 4", "part x 1.0.0", "part x 2.0.0",
                 "part x 3.0.0", "part x 4.0.0"]
        self.found(lines, wants("a *", "b *"), "a 1.0.0 b 1.0.0 x 3.0.0")
        self.found(lines, wants("a *", "b *", "x <3.0.0"), "a 1.0.0 b 1.0.0 x 2.0.0")
        self.stuck(lines, wants("a *", "b *", "x 1"))


class TestTold(Seeking):
    def test_steps_with_papers_of_several_kinds(self):
        lines = ["part a 4.0.0", "need gone *", "part a 3.0.0", "need b 2", "part a 2.0.0", "part a 1.0.0",
                 "part b 1.0.0", "part b 2.0.0", "need c *", "need a <3.0.0"]
        steps = self.found(lines, wants("a <3.0.0 | >=3.0.0 !=2.0.0", "b 1"), "a 2.0.0 b 1.0.0")
        self.assertEqual([(step[0], step[1], len(step[2])) for step in steps], [("a", m("2.0.0"), 2),
                                                                                ("b", m("1.0.0"), 1)])

    def test_only_newer_makes_have_papers(self):
        lines = ["part a 1.0.0", "part a 2.0.0", "part a 3.0.0", "part a 4.0.0"]
        for great in range(1, 5):
            steps = self.found(lines, wants(f"a {great}"), f"a {great}.0.0")
            self.assertEqual([made for made, _ in steps[0][2]], [make(one) for one in range(4, great, -1)])

    def test_the_told_list_is_the_askers(self):
        shelf = read_shelf(["part a 1.0.0", "need b *", "part a 2.0.0", "need gone *", "part b 1.0.0"])
        before = self.each(shelf, wants("a *"))
        kept = (before[0], before[1], list(before[2]))
        self.assertEqual(len(kept[2]), 2)
        before[2].clear()
        before[2].append("x")
        self.assertEqual(sought(shelf, wants("a *")), kept)
        self.assertEqual(before[2], ["x"])
        nothing = sought(shelf, ())
        nothing[2].append("x")
        self.assertEqual(sought(shelf, ()), ("book", (), []))

    def test_nothing_hangs_on_what_was_asked_before(self):
        one = read_shelf(["part a 1.0.0", "part a 2.0.0", "need b *", "part b 1.0.0"])
        other = read_shelf(["part a 1.0.0", "part a 2.0.0", "need b 2", "part b 1.0.0"])
        for _ in range(2):
            self.assertEqual(self.each(one, wants("a *"))[1], book("a 2.0.0 b 1.0.0"))
            self.assertEqual(self.each(other, wants("a *"))[1], book("a 1.0.0"))
            self.assertEqual(self.each(one, wants("a 1"))[1], book("a 1.0.0"))
            self.assertEqual(self.each(one, wants("a 3"))[0], "stuck")


def six(spans_of):
    """Six names of four makes each; each make needs all other names, by the span that is told for both."""
    shelf = []
    for name in "abcdef":
        for great in range(1, 5):
            needs = [(other, spans_of(name, great, other)) for other in "abcdef" if other != name]
            shelf.append((name, make(great), tuple(needs)))
    return tuple(shelf)


def only(greats):
    return tuple([(make(great), make(great, 0, 1)) for great in greats])


class TestGreat(Seeking):
    WANTED = tuple([(name, ALL) for name in "fedcba"])

    def in_time(self, shelf, wanted, kind):
        start = time.monotonic()
        told = sought(shelf, wanted)
        self.assertLess(time.monotonic() - start, 20)
        self.assertEqual(told[0], kind)
        self.each(shelf, wanted)

    def test_six_names_of_four_makes_without_a_book(self):
        # Five of them can't be unlike with four makes.
        unlike = six(lambda name, great, other: only([one for one in range(1, 5) if one != great]))
        self.in_time(unlike, self.WANTED, "stuck")
        self.in_time(unlike, self.WANTED[:1], "stuck")

    def test_without_a_book_by_the_last_name(self):
        for needed in "abcde":
            self.in_time(six(lambda name, great, other: () if name + other == "f" + needed else ALL), self.WANTED,
                         "stuck")

    def test_a_paper_leaves_out_what_has_no_part_in_it(self):
        # Of 4 ** 6 ways through all names only those of e and f count.
        def size(paper):
            return 1 + (sum(size(behind) for _, behind in paper[3]) if paper[0] == "open" else 0)
        told = self.each(six(lambda name, great, other: () if name + other == "fe" else ALL), self.WANTED)
        self.assertLess(size(told[1]), 30)

    def test_needs_of_forty_pieces(self):
        self.in_time(six(lambda name, great, other: forty(1, 2)), self.WANTED, "book")
        self.in_time(six(lambda name, great, other: forty(1 + great % 2, 2)), self.WANTED, "stuck")

    def test_forty_wants(self):
        names = ["n" + one + other for one in "abcde" for other in "abcdefgh"]
        wanted = tuple([(name, ALL) for name in names])
        self.in_time((("naa", make(1), wanted[1:]),), wanted, "stuck")
        self.in_time(six(lambda name, great, other: ALL), self.WANTED + wanted[:34], "stuck")

    def test_without_a_book_and_a_name_that_is_gone(self):
        shelf = tuple([(name, one, needs + (("zz", ALL),)) for name, one, needs in
                       six(lambda name, great, other: only([one for one in range(1, 5) if one != great]))])
        self.in_time(shelf, self.WANTED, "stuck")
        shelf = six(lambda name, great, other: only([great]))
        self.in_time(shelf, self.WANTED, "book")
        self.in_time(shelf, self.WANTED + (("zz", ALL),), "stuck")


class TestManyShelves(Seeking):
    SPANS = ["*", "1", "2", "3", "1 | 2", "2 | 3", "3 | 4", "!=2.0.0", ">=2.0.0", "<3.0.0", "<=1.0.0", "none"]

    def many(self, chance, names, rounds, share):
        kinds = {"book": 0, "stuck": 0}
        for _ in range(rounds):
            shelf = read_shelf(random_shelf(chance, names, self.SPANS, share))
            picked = [name for name in chance.sample(names, len(names)) if chance.random() < 0.6]
            wanted = wants(*[name + " " + chance.choice(self.SPANS[:-1]) for name in picked])
            kinds[self.each(shelf, wanted)[0]] += 1
            yield shelf, wanted
        self.assertGreater(min(kinds.values()), rounds // 20, kinds)

    def test_against_all_books(self):
        for shelf, wanted in self.many(random.Random(23), list("abcd"), 150, 0.3):
            sound = any(not broken_plainly(shelf, wanted, taken) for taken in every_book(shelf))
            self.assertEqual(sought(shelf, wanted)[0], "book" if sound else "stuck")

    def test_against_the_plain_words(self):
        for share in (0.1, 0.2, 0.35):
            for _ in self.many(random.Random(25), ["b", "a", "ab", "aa", "ba", "c"], 200, share):
                pass


if __name__ == "__main__":
    unittest.main()
