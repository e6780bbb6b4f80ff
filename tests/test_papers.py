"""Points 24 and 26: stretchbook.papers."""

import itertools
import random
import unittest

from stretchbook.papers import is_paper
from stretchbook.reading import read_span
from stretchbook.seeking import sought
from stretchbook.shelves import read_shelf
from stretchbook.spans import ALL
from tests.plain import book, broken_plainly, every_book, m, make, makes_on, random_shelf, shows, wants

ONE, TWO, THREE = make(1), make(2), make(3)
SHELF = read_shelf([
    "part a 1.0.0", "need b 2",
    "part a 2.0.0", "need b 1", "need c 1",
    "part b 1.0.0", "need c 2",
    "part b 2.0.0", "need a 2",
    "part c 1.0.0", "part c 2.0.0", "need gone *",
    "part d 1.0.0", "need a 3 | 4",
])
WANTED = wants("a *", "d *")


def broken(by, name, text):
    return ("broken", by, name, read_span(text))


def opened(name, by, *rows):
    return ("open", name, by, tuple([(m(text), paper) for text, paper in rows]))


BEHIND_ONE = opened("b", "a", ("2.0.0", broken("b", "a", "2")), ("1.0.0", broken("a", "b", "2")))
BEHIND_TWO = opened("c", "a", ("2.0.0", broken("a", "c", "1")),
                    ("1.0.0", opened("b", "a", ("2.0.0", broken("a", "b", "1")), ("1.0.0", broken("b", "c", "2")))))
WHOLE = opened("a", "", ("2.0.0", BEHIND_TWO), ("1.0.0", BEHIND_ONE))


class Papers(unittest.TestCase):
    def asked(self, shelf, wanted, choices, paper):
        """The answer, against the plain words, and the same once more."""
        told = is_paper(shelf, wanted, choices, paper)
        self.assertIs(type(told), bool)
        self.assertEqual(told, shows(shelf, wanted, choices, paper), (choices, paper))
        self.assertEqual(is_paper(shelf, wanted, choices, paper), told)
        return told

    def right(self, choices, paper, shelf=SHELF, wanted=WANTED):
        self.assertIs(self.asked(shelf, wanted, choices, paper), True, paper)

    def wrong(self, choices, paper, shelf=SHELF, wanted=WANTED):
        self.assertIs(self.asked(shelf, wanted, choices, paper), False, paper)


class TestRight(Papers):
    def test_no_choices(self):
        self.right((), WHOLE)
        self.right((), opened("d", "", ("1.0.0", opened("a", "d", ("2.0.0", broken("d", "a", "3 | 4")),
                                                        ("1.0.0", broken("d", "a", "3 | 4"))))))

    def test_some_choices(self):
        self.right(book("a 2.0.0"), BEHIND_TWO)
        self.right(book("a 1.0.0"), BEHIND_ONE)
        self.right(book("c 2.0.0"), opened("gone", "c"))
        self.right(book("a 2.0.0"), opened("c", "a", ("2.0.0", opened("gone", "c")), ("1.0.0", BEHIND_TWO[3][1][1])))

    def test_choices_in_any_order(self):
        paper = opened("b", "a", ("2.0.0", broken("a", "b", "1")), ("1.0.0", broken("b", "c", "2")))
        for choices in itertools.permutations(book("a 2.0.0 c 1.0.0 d 1.0.0")):
            self.right(choices, paper)
            self.right(choices, broken("d", "a", "3 | 4"))

    def test_choices_that_clash_already(self):
        for choices in (book("a 1.0.0 b 1.0.0"), book("b 1.0.0 a 1.0.0")):
            self.right(choices, broken("a", "b", "2"))
            self.right(choices, opened("c", "b", ("2.0.0", broken("a", "b", "2")), ("1.0.0", broken("a", "b", "2"))))
            self.right(choices, opened("c", "b", ("2.0.0", opened("gone", "c")), ("1.0.0", broken("b", "c", "2"))))
        self.right(book("a 1.0.0"), broken("", "a", "2"), wanted=wants("a 2"))

    def test_choices_that_no_need_asks_for(self):
        self.right(book("b 2.0.0 d 1.0.0 a 1.0.0"), broken("b", "a", "2"), wanted=())
        self.right(book("c 2.0.0"), opened("gone", "c"), wanted=())

    def test_rows_of_none(self):
        self.right((), opened("gone", ""), wanted=wants("a *", "gone *"))
        self.right((), opened("x", ""), shelf=(), wanted=wants("x none"))

    def test_of_several_needs_of_one_name_each_will_do(self):
        rows = (("2.0.0", broken("d", "a", "3 | 4")), ("1.0.0", broken("d", "a", "3 | 4")))
        self.right(book("d 1.0.0"), opened("a", "d", *rows))
        self.right(book("d 1.0.0"), opened("a", "", *rows))
        self.wrong(book("d 1.0.0"), opened("a", "b", *rows))

    def test_seven_deep(self):
        lines = []
        for name, needed in ("ab", "bc", "cd", "de", "ef", "fg"):
            lines += [f"part {name} 1.0.0", f"need {needed} *", f"part {name} 2.0.0", f"need {needed} *"]
        shelf = read_shelf(lines)
        paper = opened("g", "f")
        for by, name in (("e", "f"), ("d", "e"), ("c", "d"), ("b", "c"), ("a", "b"), ("", "a")):
            paper = opened(name, by, ("2.0.0", paper), ("1.0.0", paper))
        self.right((), paper, shelf=shelf, wanted=wants("a *"))
        self.wrong((), paper, shelf=shelf, wanted=wants("b *"))
        worse = opened("g", "e")
        for by, name in (("e", "f"), ("d", "e"), ("c", "d"), ("b", "c"), ("a", "b"), ("", "a")):
            worse = opened(name, by, ("2.0.0", worse), ("1.0.0", worse))
        self.wrong((), worse, shelf=shelf, wanted=wants("a *"))


class TestWrong(Papers):
    def test_another_by(self):
        for by in ("", "b", "c", "d", "x", "A", "a ", "any text\nat all"):
            self.wrong(book("a 1.0.0 b 1.0.0"), broken(by, "b", "2"))
            self.wrong(book("a 1.0.0"), ("open", "b", by, BEHIND_ONE[3]))
        for by in ("a", "b", "-", "d"):
            self.wrong((), ("open", "a", by, WHOLE[3]))

    def test_another_name(self):
        for name in ("", "a", "c", "d", "gone", "B", "b ", "any text\nat all"):
            self.wrong(book("a 1.0.0 b 1.0.0"), broken("a", name, "2"))
            self.wrong(book("a 1.0.0"), ("open", name, "a", BEHIND_ONE[3]))
            self.wrong(book("a 1.0.0"), ("open", name, "a", ()))

    def test_another_span(self):
        for text in ("*", "none", "1", "2 | 3", "=2.0.0", ">=2.0.0"):
            self.wrong(book("a 1.0.0 b 1.0.0"), broken("a", "b", text))
        self.right(book("a 1.0.0 b 1.0.0"), broken("a", "b", ">=2.0.0-0 <3.0.0-0"))

    def test_a_need_that_is_kept(self):
        self.wrong(book("a 1.0.0 b 2.0.0"), broken("a", "b", "2"))
        self.wrong(book("a 1.0.0"), broken("", "a", "*"))
        self.right(book("a 1.0.0 b 2.0.0"), broken("b", "a", "2"))

    def test_a_broken_need_whose_name_is_not_chosen(self):
        self.wrong(book("a 1.0.0"), broken("a", "b", "2"))
        self.wrong((), broken("", "a", "*"))
        self.wrong(book("c 2.0.0"), broken("c", "gone", "*"))
        self.wrong((), broken("", "a", "none"), wanted=wants("a none"))

    def test_a_need_that_is_not_at_work(self):
        # By an entry that is not chosen, by one that is chosen with another make, by a want that is none.
        self.wrong(book("b 1.0.0"), broken("a", "b", "2"))
        self.wrong(book("a 2.0.0 b 2.0.0 c 1.0.0"), broken("a", "b", "2"))
        self.wrong(book("a 2.0.0 b 1.0.0"), broken("a", "b", "2"))
        self.wrong(book("a 1.0.0 b 1.0.0"), broken("", "b", "2"))
        self.wrong((), ("open", "b", "a", BEHIND_ONE[3]))
        self.wrong(book("a 2.0.0"), ("open", "gone", "c", ()))
        self.wrong(book("c 1.0.0"), ("open", "gone", "c", ()))

    def test_an_open_name_that_is_chosen_already(self):
        rows = (("2.0.0", broken("a", "b", "2")), ("1.0.0", broken("a", "b", "2")))
        self.wrong(book("a 1.0.0 b 1.0.0"), opened("b", "a", *rows))
        self.wrong(book("b 1.0.0 a 1.0.0"), opened("a", "", *rows))
        self.wrong(book("a 1.0.0 b 1.0.0"), opened("c", "b", ("2.0.0", opened("b", "a", *rows)),
                                                   ("1.0.0", broken("a", "b", "2"))))

    def test_rows(self):
        rows = BEHIND_ONE[3]
        choices = book("a 1.0.0")
        self.right(choices, ("open", "b", "a", rows))
        for other in ((), rows[:1], rows[1:], rows[::-1], rows + rows[:1], rows + rows[1:], rows[:1] + rows, rows * 2,
                      (rows[0], rows[0]), (rows[1], rows[1]), rows + ((THREE, rows[0][1]),),
                      ((THREE, rows[0][1]),) + rows, ((THREE, rows[0][1]), rows[1]),
                      (rows[0], (m("1.0.0-a"), rows[1][1])), ((TWO, rows[1][1]), (ONE, rows[0][1])), rows * 100):
            self.wrong(choices, ("open", "b", "a", other))

    def test_a_wrong_paper_in_any_row(self):
        rows = BEHIND_ONE[3]
        for paper in (broken("a", "b", "1"), broken("", "a", "*"), opened("b", "a"), opened("gone", "a"), BEHIND_ONE,
                      BEHIND_TWO, WHOLE):
            self.wrong(book("a 1.0.0"), ("open", "b", "a", ((TWO, paper), rows[1])))
            self.wrong(book("a 1.0.0"), ("open", "b", "a", (rows[0], (ONE, paper))))
            self.wrong((), opened("a", "", ("2.0.0", BEHIND_TWO), ("1.0.0", opened("b", "a", ("2.0.0", paper),
                                                                                 ("1.0.0", rows[1][1])))))

    def test_a_paper_of_another_place(self):
        self.wrong((), BEHIND_ONE)
        self.wrong(book("a 1.0.0"), BEHIND_TWO)
        self.wrong(book("a 2.0.0"), BEHIND_ONE)
        self.wrong(book("a 1.0.0"), WHOLE)
        self.wrong((), opened("a", "", ("2.0.0", BEHIND_ONE), ("1.0.0", BEHIND_TWO)))
        self.wrong((), WHOLE, wanted=wants("d *"))
        self.wrong((), WHOLE, shelf=())
        self.wrong((), WHOLE, shelf=SHELF + (("a", THREE, ()),))
        self.wrong((), WHOLE, shelf=SHELF + (("b", THREE, ()),))
        self.right((), WHOLE, shelf=SHELF + (("d", THREE, ()),))
        self.right((), WHOLE, shelf=SHELF[::-1])

    def test_rows_of_none_for_a_name_that_is_there(self):
        self.wrong((), opened("a", ""))
        self.wrong(book("a 1.0.0"), opened("b", "a"))
        self.wrong((), opened("gone", ""))
        self.wrong((), opened("gone", "", ("1.0.0", broken("", "a", "*"))), wanted=wants("gone *"))

    def test_names_like_the_text_without_signs(self):
        self.wrong((), opened("", ""))
        self.wrong((), broken("", "", "*"))
        self.wrong(book("a 1.0.0"), broken("", "", "2"))


def places(paper, way=()):
    """The ways to all papers within a paper, itself among them."""
    yield way
    if paper[0] == "open":
        for k, row in enumerate(paper[3]):
            yield from places(row[1], way + (k,))


def at(paper, way):
    for k in way:
        paper = paper[3][k][1]
    return paper


def put(paper, way, other):
    """The paper with another one at this place."""
    if not way:
        return other
    rows = list(paper[3])
    rows[way[0]] = (rows[way[0]][0], put(rows[way[0]][1], way[1:], other))
    return paper[:3] + (tuple(rows),)


def otherwise(chance, paper, names, spans):
    """A paper with one thing put otherwise."""
    if paper[0] == "broken":
        return chance.choice([("broken", chance.choice([""] + names), paper[2], paper[3]),
                              ("broken", paper[1], chance.choice(names), paper[3]),
                              paper[:3] + (chance.choice(spans),)])
    rows = paper[3]
    k = chance.randrange(len(rows) + 1)
    return chance.choice([("open", chance.choice(names), paper[2], rows),
                          ("open", paper[1], chance.choice([""] + names), rows),
                          paper[:3] + (rows[:k] + rows[k + 1:],), paper[:3] + (rows[:k] + rows[k - 1:],),
                          paper[:3] + (rows[::-1],), paper[:3] + (rows[k:] + rows[:k],)])


class TestMany(Papers):
    TEXTS = ["*", "1", "2", "1 | 2", "3 | 4", "!=2.0.0", ">=2.0.0", "<3.0.0"]
    NAMES = list("abcd")

    def stuck_ones(self, chance, count):
        while count:
            shelf = read_shelf(random_shelf(chance, self.NAMES, self.TEXTS, 0.3))
            wanted = wants(*[name + " " + chance.choice(self.TEXTS) for name in self.NAMES if chance.random() < 0.6])
            told = sought(shelf, wanted)
            if told[0] == "stuck":
                count -= 1
                yield shelf, wanted, told[1]

    def test_papers_put_otherwise(self):
        chance = random.Random(26)
        answers = {True: 0, False: 0}
        spans = [read_span(text) for text in self.TEXTS]
        for shelf, wanted, paper in self.stuck_ones(chance, 120):
            self.right((), paper, shelf, wanted)
            for _ in range(30):
                way = chance.choice(list(places(paper)))
                changed = put(paper, way, otherwise(chance, at(paper, way), self.NAMES + ["gone"], spans))
                answers[self.asked(shelf, wanted, (), changed)] += 1
        self.assertGreater(min(answers.values()), 100)

    def test_papers_at_other_choices(self):
        chance = random.Random(27)
        answers = {True: 0, False: 0}
        for shelf, wanted, paper in self.stuck_ones(chance, 60):
            for way in places(paper):
                names = chance.sample(self.NAMES, chance.randrange(4))
                choices = tuple([(name, chance.choice(makes_on(shelf, name))) for name in names])
                answers[self.asked(shelf, wanted, choices, at(paper, way))] += 1
        self.assertGreater(min(answers.values()), 20, answers)

    def test_no_sound_book_takes_choices_with_a_paper(self):
        chance = random.Random(28)
        seen = 0
        for _ in range(80):
            shelf = read_shelf(random_shelf(chance, self.NAMES, self.TEXTS, 0.25))
            wanted = wants(*[name + " " + chance.choice(self.TEXTS) for name in self.NAMES if chance.random() < 0.6])
            told = sought(shelf, wanted)
            sound = [taken for taken in every_book(shelf) if not broken_plainly(shelf, wanted, taken)]
            choices = ()
            for name, one, papers in told[2] if told[0] == "book" else ():
                for newer, paper in papers:
                    picked = choices + ((name, newer),)
                    self.right(picked, paper, shelf, wanted)
                    self.assertFalse([taken for taken in sound if set(picked) <= set(taken)])
                    seen += 1
                choices += ((name, one),)
        self.assertGreater(seen, 30)

    def test_nothing_hangs_on_what_was_asked_before(self):
        for _ in range(2):
            self.right((), WHOLE)
            self.wrong(book("a 1.0.0"), WHOLE)
            self.wrong((), WHOLE, shelf=(("a", ONE, ()),))
            self.right((), opened("x", ""), shelf=(), wanted=(("x", ALL),))


if __name__ == "__main__":
    unittest.main()
