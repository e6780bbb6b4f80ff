"""Points 2, 3 and 4 over all: a long run of lines at one desk, against plain reading of the document."""

import random
import re
import unittest

from stretchbook.desk import Desk
from stretchbook.errors import SpanError
from stretchbook.makes import shown_make
from stretchbook.reading import read_span
from stretchbook.shelves import read_shelf
from stretchbook.writing import price
from tests.plain import (PlainLock, beside, broken_plainly, in_text, m, makes_in, makes_on, newest_plainly,
                         random_shelf, shows, swapped)

NUMBER = r"(?:0|[1-9][0-9]{0,14})"
MARK = rf"(?:{NUMBER}|[a-z]{{1,8}})"
MAKE = rf"{NUMBER}\.{NUMBER}\.{NUMBER}(?:-{MARK}(?:\.{MARK}){{0,11}})?"
TERM = (rf"(?:\*|none|(?:=|!=|<|>|<=|>=|\^|~){MAKE}|{NUMBER}(?:\.{NUMBER})?"
        rf"|[\[(](?:{MAKE})?,(?:{MAKE})?[\])])")
SPAN = rf"{TERM}(?: (?:\| )?{TERM})*"
FORMS = [rf"(part) ([a-z]{{1,8}}) ({MAKE})", rf"(need|want) ([a-z]{{1,8}}) ({SPAN})", r"(drop|newest) ([a-z]{1,8})",
         r"(shelf|lift|book)", rf"(lies) ({MAKE}) ({SPAN})", rf"(words|write) ({SPAN})",
         rf"(parts) ({SPAN}) / ({SPAN})"]


class PlainDesk:
    """Point 28, by its words: a list of the answers that will do, a look at the answer, or a tuple for a refusal."""

    def __init__(self):
        self.lock, self.kept = PlainLock(()), []

    def say(self, line):
        for form in FORMS:
            found = re.fullmatch(form, line)
            if found:
                return getattr(self, found.group(1))(line, *found.groups()[1:])
        return ("NoLine",)

    def part(self, line, *_):
        self.kept.append(line)
        return ["ok"]

    need = part

    def shelf(self, line):
        lines, self.kept = self.kept, []
        for k, told in enumerate(lines):
            above = [n for n in range(k) if lines[n].startswith("part ")]
            if told.startswith("part "):
                if told in lines[:k] or len(above) == 40:
                    return ("NoShelf", k)
            else:
                own = [lines[n].split(" ")[1] for n in range(above[-1], k)] if above else []
                if not own or told.split(" ")[1] in own or len(own) == 41:
                    return ("NoShelf", k)
        self.lock = PlainLock(read_shelf(lines))
        return ["ok"]

    def book(self, line):
        return [", ".join(f"{name} {shown_make(one, ())}" for name, one in self.lock.taken) or "-"]

    def want(self, line, name, text):
        refusal = self.lock.want(name, read_span(text))
        return (refusal, name, read_span(text)) if refusal else self.book(line)

    def drop(self, line, name):
        refusal = self.lock.drop(name)
        return (refusal,) if refusal else self.book(line)

    def lift(self, line):
        self.lock.lift()
        return self.book(line)

    def newest(self, line, name):
        lock = self.lock
        if name not in dict(lock.taken):
            return ("NoName",)
        found = newest_plainly(lock.shelf, lock.wanted, lock.taken, name)
        answers = [shown_make(found, ())]
        makes = makes_on(lock.shelf, name)
        for newer in makes[:makes.index(found)]:
            needs = broken_plainly(lock.shelf, lock.wanted, swapped(lock.taken, name, newer))
            whys = [f", {shown_make(newer, ())} {by or '-'} {needed}" for by, needed, _ in needs]
            answers = [ahead + why for ahead in answers for why in whys]
        return answers

    def lies(self, line, made, text):
        return ["yes" if in_text(m(made), text) else "no"]

    def words(self, line, text):
        return [str(price(read_span(text)))]

    def write(self, line, text):
        def will_do(told):
            alike = all(in_text(one, text) == in_text(one, told) for one in beside(makes_in(text + " " + told)))
            words = len(told.replace("| ", "").split(" "))
            return alike and words == price(read_span(text)) and "[" not in told and "(" not in told
        return will_do

    def parts(self, line, one, other):
        apart = [made for made in beside(makes_in(one + " " + other)) if in_text(made, one) != in_text(made, other)]
        if not apart:
            return ["-"]
        return lambda told: re.fullmatch(MAKE, told) and in_text(m(told), one) != in_text(m(told), other)


class TestLongRun(unittest.TestCase):
    NAMES = ["a", "b", "ab", "ba", "c"]
    TEXTS = ["*", "*", "1", "2", "3", "1 | 2", "2 | 3", "3 | 4", "!=2.0.0", ">=2.0.0", "<3.0.0", "none",
             "[2.0.0,3.0.0]", "(,2.0.0) | =3.0.0", "^1.0.0 | ~4.0.0-0", "1 | >=2.5.0 !=3.0.0", ">2.0.0-a.1 <=4.0.0",
             "2.0 | 3.0"]
    MAKES = ["1.0.0", "2.0.0", "3.0.0", "4.0.0", "2.0.0-a.1", "4.0.0-0", "2.5.0", "0.0.0-0"]

    def line(self, chance):
        def name():
            return chance.choice(self.NAMES + ["gone"] * (chance.random() < 0.2))

        def text():
            return chance.choice(self.TEXTS)
        return chance.choice([f"want {name()} {text()}"] * 6 + [f"drop {name()}", f"drop {name()}", "lift", "book"]
                             + [f"newest {name()}"] * 4
                             + [f"lies {chance.choice(self.MAKES)} {text()}", f"words {text()}", f"write {text()}",
                                f"write {text()} | {text()}", f"parts {text()} / {text()}", f"part {name()} 1.0.0",
                                f"need {name()} {text()}"])

    def spoilt(self, chance, line):
        k = chance.randrange(len(line) + 1)
        return chance.choice([line[:k] + chance.choice(" |/-+.,1a*A\n") + line[k:], line[:k] + line[k + 1:], line[k:],
                              line[:k], line + " " + line, line.replace(" ", "  ", 1)])

    def lines(self, chance, count):
        for _ in range(count):
            if chance.random() < 0.03:
                yield from random_shelf(chance, self.NAMES, self.TEXTS, 0.15)
                yield "shelf"
            line = self.line(chance)
            yield self.spoilt(chance, line) if chance.random() < 0.2 else line

    def step(self, desk, plain, line):
        wanted = dict(plain.lock.wanted)
        expected = plain.say(line)
        try:
            told = desk.say(line)
        except SpanError as refusal:
            self.assertIs(type(expected), tuple, (line, refusal))
            self.assertEqual(type(refusal).__name__, expected[0], line)
            if expected[0] == "NoShelf":
                self.assertEqual(refusal.place, expected[1])
            if expected[0] == "Stuck":
                wanted[expected[1]] = expected[2]
                self.assertTrue(shows(plain.lock.shelf, tuple(wanted.items()), (), refusal.paper))
            return expected[0]
        self.assertIs(type(told), str)
        if type(expected) is list:
            self.assertIn(told, expected, line)
        else:
            self.assertTrue(expected(told), (line, told))
        return line.split(" ")[0]

    def test_against_the_plain_words(self):
        chance = random.Random(28)
        desk, plain = Desk(), PlainDesk()
        seen = {}
        for line in self.lines(chance, 4000):
            kind = self.step(desk, plain, line)
            seen[kind] = seen.get(kind, 0) + 1
            self.assertEqual([desk.say("book")], plain.book("book"))
        for kind in ("part need shelf want drop lift book newest lies words write parts NoLine NoName NoShelf Stuck"
                     .split()):
            self.assertGreater(seen.get(kind, 0), 15, seen)


if __name__ == "__main__":
    unittest.main()
