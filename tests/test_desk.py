"""Point 28: stretchbook.desk."""

import unittest

from stretchbook.desk import Desk
from stretchbook.errors import NoLine, NoName, NoShelf, NoSpan, SpanError, Stuck
from stretchbook.reading import read_span
from stretchbook.shelves import read_shelf
from stretchbook.writing import price
from tests.plain import in_text, m, shows, wants

SHELF = [
    "part app 1.0.0", "need lib 1", "part app 2.0.0", "need lib 2", "need tool *",
    "part lib 1.0.0-a.2", "part lib 1.5.0", "part lib 2.0.0", "part lib 3.0.0",
    "part tool 1.0.0", "part tool 2.0.0", "need lib <2.0.0",
]


class Desks(unittest.TestCase):
    def desk(self, *lines):
        """A desk with a lock of the shelf, told these lines."""
        desk = Desk()
        for line in SHELF + ["shelf"]:
            self.assertEqual(desk.say(line), "ok")
        for line in lines:
            desk.say(line)
        return desk

    def says(self, desk, *pairs):
        for line, answer in pairs:
            told = desk.say(line)
            self.assertEqual((line, told), (line, answer))
            self.assertIs(type(told), str)

    def refused(self, desk, kind, line):
        """What is refused, behind which the book is as ahead."""
        before = desk.say("book")
        with self.assertRaises(kind, msg=line) as caught:
            desk.say(line)
        self.assertEqual(desk.say("book"), before)
        self.assertIs(type(caught.exception), kind)
        self.assertIsInstance(caught.exception, SpanError)
        self.assertIsInstance(caught.exception, ValueError)
        for other in (NoSpan, NoShelf, NoName, NoLine, Stuck):
            self.assertEqual(isinstance(caught.exception, other), other is kind)
        return caught.exception


class TestLock(Desks):
    def test_at_first(self):
        self.says(Desk(), ("book", "-"), ("lift", "-"), ("book", "-"))
        for line in ("want a *", "want lib none"):
            refusal = self.refused(Desk(), Stuck, line)
            self.assertEqual(refusal.paper, ("open", line.split(" ")[1], "", ()))
        self.refused(Desk(), NoName, "drop a")
        self.refused(Desk(), NoName, "newest a")

    def test_want(self):
        self.says(self.desk(), ("want lib *", "lib 3.0.0"), ("want app *", "app 2.0.0, lib 2.0.0, tool 1.0.0"),
                  ("want tool >=2.0.0", "app 1.0.0, lib 1.5.0, tool 2.0.0"),
                  ("want lib <1.5.0", "app 1.0.0, lib 1.0.0-a.2, tool 2.0.0"),
                  ("want lib =1.5.0 | [2.0.0,2.0.0] | >9.0.0 <8.0.0", "app 1.0.0, lib 1.5.0, tool 2.0.0"))

    def test_drop(self):
        self.says(self.desk("want app 1", "want tool 1"), ("book", "app 1.0.0, lib 1.5.0, tool 1.0.0"),
                  ("drop tool", "app 1.0.0, lib 1.5.0"), ("drop app", "-"))

    def test_lift(self):
        self.says(self.desk("want lib =1.0.0-a.2", "want lib <3.0.0"), ("book", "lib 1.0.0-a.2"), ("lift", "lib 2.0.0"),
                  ("lift", "lib 2.0.0"))
        self.says(self.desk(), ("lift", "-"))

    def test_book(self):
        self.says(self.desk(), ("book", "-"))
        self.says(self.desk("want lib *"), ("book", "lib 3.0.0"), ("book", "lib 3.0.0"))
        self.says(self.desk("want tool 2"), ("book", "lib 1.5.0, tool 2.0.0"))

    def test_newest_with_no_whys(self):
        self.says(self.desk("want lib 1", "want lib *"), ("newest lib", "3.0.0"), ("book", "lib 1.5.0"))

    def test_newest_by_a_want(self):
        self.says(self.desk("want app 1"), ("newest app", "1.0.0, 2.0.0 - app"))
        self.says(self.desk("want lib <1.5.0"),
                  ("newest lib", "1.0.0-a.2, 3.0.0 - lib, 2.0.0 - lib, 1.5.0 - lib"))

    def test_newest_by_an_entry(self):
        self.says(self.desk("want tool *"), ("newest lib", "1.5.0, 3.0.0 tool lib, 2.0.0 tool lib"))
        self.says(self.desk("want tool 1", "want lib 2", "want tool *"), ("newest tool", "1.0.0, 2.0.0 tool lib"))
        self.says(self.desk("want app 1", "want app *"), ("newest lib", "1.5.0, 3.0.0 app lib, 2.0.0 app lib"))

    def test_newest_by_several(self):
        desk = self.desk("want app 1", "want lib <3.0.0", "want app *")
        answers = ["1.5.0, 3.0.0 - lib, 2.0.0 app lib", "1.5.0, 3.0.0 app lib, 2.0.0 app lib"]
        self.assertIn(desk.say("newest lib"), answers)
        answers = ["1.0.0, 2.0.0 app lib", "1.0.0, 2.0.0 app tool"]
        self.assertIn(desk.say("newest app"), answers)
        desk = Desk()
        for line in ("part a 1.0.0-b", "part a 1.0.0", "need gone *", "part a 2.0.0", "part b 1.0.0", "need a <2.0.0",
                     "shelf", "want a *", "want b *"):
            desk.say(line)
        self.says(desk, ("book", "a 1.0.0-b, b 1.0.0"), ("newest a", "1.0.0-b, 2.0.0 b a, 1.0.0 a gone"))

    def test_a_want_refused(self):
        desk = self.desk("want tool 2", "want lib *")
        refusal = self.refused(desk, Stuck, "want lib 2")
        self.assertTrue(shows(read_shelf(SHELF), wants("tool 2", "lib 2"), (), refusal.paper))
        refusal = self.refused(desk, Stuck, "want gone *")
        self.assertTrue(shows(read_shelf(SHELF), wants("tool 2", "lib *", "gone *"), (), refusal.paper))
        self.says(desk, ("book", "lib 1.5.0, tool 2.0.0"), ("drop lib", "lib 1.5.0, tool 2.0.0"), ("drop tool", "-"))

    def test_a_name_that_is_not_there(self):
        desk = self.desk("want app 1")
        for line in ("drop lib", "drop tool", "drop ap", "drop gone", "newest tool", "newest gone", "newest ap"):
            self.refused(desk, NoName, line)
        self.says(desk, ("newest lib", "1.5.0, 3.0.0 app lib, 2.0.0 app lib"), ("drop app", "-"))
        self.refused(desk, NoName, "drop app")
        self.refused(desk, NoName, "newest lib")


class TestSpans(Desks):
    def test_lies(self):
        self.says(Desk(), ("lies 1.0.0 *", "yes"), ("lies 1.0.0 none", "no"), ("lies 1.0.0-a 1", "yes"),
                  ("lies 2.0.0-0 1", "no"), ("lies 1.5.0 ^1.0.0 !=1.5.0", "no"), ("lies 3.0.0 1 | 2 | [3.0.0,]", "yes"),
                  ("lies 3.0.0 (3.0.0,)", "no"), ("lies 3.0.0 >=1.0.0 <2.0.0 | >=3.0.0 <4.0.0", "yes"),
                  ("lies 2.0.0 >=1.0.0 <2.0.0 | >=3.0.0 <4.0.0", "no"), ("lies 0.0.0-0 (,1.0.0]", "yes"))

    def test_words(self):
        self.says(Desk(), ("words *", "1"), ("words none", "1"), ("words * | none | 1", "1"),
                  ("words >=1.0.0 <2.0.0", "2"), ("words [1.0.0,2.0.0)", "2"), ("words [1.0.0,2.0.0-0)", "1"),
                  ("words ^1.0.0 !=1.5.0 | >=3.0.0", "3"), ("words =1.0.0 | =2.0.0 | =3.0.0 | =1.0.0", "3"))
        self.says(Desk(), ("words " + " | ".join(f"={great}.0.0" for great in range(12)), "12"))

    def test_write(self):
        desk = Desk()
        self.says(desk, ("write *", "*"), ("write none", "none"), ("write 1 none", "none"),
                  ("write <1.0.0 | >=1.0.0", "*"))
        for text in ("1", "^1.0.0 !=1.5.0 | >=3.0.0", "[1.0.0,2.0.0) | (2.0.0,3.0.0]", "=1.0.0", "!=1.0.0 !=2.0.0",
                     "(,1.0.0-a.2] | [2.0.0,)"):
            told = desk.say("write " + text)
            self.assertEqual(read_span(told), read_span(text))
            self.assertEqual(len([word for word in told.split(" ") if word != "|"]), price(read_span(text)))
            self.assertNotRegex(told, r"[\[\]()]")
            self.assertEqual(desk.say("words " + text), str(price(read_span(text))))

    def test_parts(self):
        desk = Desk()
        self.says(desk, ("parts * / *", "-"), ("parts none / none", "-"), ("parts 1 / [1.0.0-0,2.0.0-0)", "-"),
                  ("parts 1 | 2 / >=1.0.0-0 <3.0.0-0", "-"), ("parts =1.0.0 / none", "1.0.0"),
                  ("parts !=1.0.0-a.2 / *", "1.0.0-a.2"), ("parts * / >0.0.0-0", "0.0.0-0"))
        for one, other in (("*", "none"), ("1 | 2", "2 | 3"), ("^1.0.0 !=1.5.0", "^1.0.0"), ("[1.0.0,]", "(1.0.0,]"),
                           (">=1.0.0 <2.0.0 | =4.0.0", ">=1.0.0 <2.0.0"), ("none | none", "9")):
            for ahead, behind in ((one, other), (other, one)):
                told = m(desk.say(f"parts {ahead} / {behind}"))
                self.assertNotEqual(in_text(told, one), in_text(told, other))

    def test_makes_up_to_the_bounds(self):
        far = "99999999999999.99999999999999.99999999999999"
        marks = "1.0.0-" + ".".join(["abcdefgh"] * 10 + ["99999999999999"])
        self.says(Desk(), (f"lies {far} *", "yes"), (f"lies {far} ={far}", "yes"), (f"lies {marks} <{marks}", "no"),
                  (f"lies {marks} >={marks} <1.0.0", "yes"), (f"write ={marks}", f"={marks}"), (f"words ~{far}", "1"),
                  (f"parts ={marks} / none", marks), (f"parts <={far} | >{far} / *", "-"),
                  (f"part a {marks}", "ok"), (f"need b ={far}", "ok"), (f"part b {far}", "ok"), ("shelf", "ok"),
                  ("want a *", f"a {marks}, b {far}"), ("newest a", marks))

    def test_these_lines_leave_the_lock_and_the_lines_alone(self):
        desk = self.desk("want app 1", "part x 1.0.0")
        for line in ("lies 1.0.0 *", "words *", "write *", "parts * / none"):
            desk.say(line)
        self.says(desk, ("book", "app 1.0.0, lib 1.5.0"), ("shelf", "ok"), ("want x *", "x 1.0.0"))


class TestShelf(Desks):
    def no_shelf(self, desk, place):
        self.assertEqual(self.refused(desk, NoShelf, "shelf").place, place)

    def test_a_shelf_of_lines(self):
        desk = Desk()
        self.says(desk, ("part a 1.0.0", "ok"), ("need b [1.0.0,2.0.0) | >=3.0.0 !=3.5.0", "ok"),
                  ("part b 1.0.0", "ok"), ("part b 2.0.0", "ok"), ("shelf", "ok"), ("book", "-"),
                  ("want a *", "a 1.0.0, b 1.0.0"))

    def test_a_shelf_of_no_lines(self):
        self.says(Desk(), ("shelf", "ok"), ("book", "-"))
        desk = self.desk("want app *")
        self.says(desk, ("shelf", "ok"), ("book", "-"))
        self.assertEqual(self.refused(desk, Stuck, "want app *").paper, ("open", "app", "", ()))
        self.refused(desk, NoName, "drop app")

    def test_no_line_is_kept_behind_a_shelf(self):
        desk = Desk()
        self.says(desk, ("part a 1.0.0", "ok"), ("shelf", "ok"), ("part b 1.0.0", "ok"), ("shelf", "ok"),
                  ("want b *", "b 1.0.0"))
        self.refused(desk, Stuck, "want a *")

    def test_the_lock_stays_till_the_next_shelf(self):
        desk = self.desk("want app 1")
        self.says(desk, ("part x 1.0.0", "ok"), ("need y *", "ok"), ("book", "app 1.0.0, lib 1.5.0"),
                  ("want tool *", "app 1.0.0, lib 1.5.0, tool 2.0.0"))
        self.refused(desk, Stuck, "want x *")
        self.says(desk, ("part y 2.0.0", "ok"), ("shelf", "ok"), ("book", "-"), ("want x *", "x 1.0.0, y 2.0.0"))
        self.refused(desk, Stuck, "want app *")

    def test_a_new_lock_is_without_wants(self):
        desk = self.desk("want app 1")
        for line in SHELF + ["shelf"]:
            self.says(desk, (line, "ok"))
        self.says(desk, ("book", "-"), ("want lib *", "lib 3.0.0"))
        self.refused(desk, NoName, "drop app")

    def test_lines_that_are_no_shelf(self):
        names = [one + other for one in "abcdefg" for other in "abcdef"]
        for lines, place in ((["need b *"], 0), (["need b *", "part a 1.0.0"], 0), (["part a 1.0.0", "need a *"], 1),
                             (["part a 1.0.0", "need b *", "need b 1"], 2),
                             (["part a 1.0.0", "part b 1.0.0", "part a 1.0.0"], 2),
                             ([f"part a {great}.0.0" for great in range(41)], 40),
                             (["part z 1.0.0"] + [f"need {name} *" for name in names], 41)):
            desk = self.desk("want app 1")
            for line in lines:
                self.says(desk, (line, "ok"))
            self.no_shelf(desk, place)
            # No line is kept from then on, and the lock is as it was.
            self.says(desk, ("book", "app 1.0.0, lib 1.5.0"), ("want tool 1", "app 1.0.0, lib 1.5.0, tool 1.0.0"),
                      ("newest app", "1.0.0, 2.0.0 - app"), ("drop tool", "app 1.0.0, lib 1.5.0"),
                      ("part q 1.0.0", "ok"), ("shelf", "ok"), ("book", "-"), ("want q *", "q 1.0.0"))

    def test_a_shelf_of_none_behind_a_refused_one(self):
        desk = self.desk("need x *")
        self.no_shelf(desk, 0)
        self.says(desk, ("shelf", "ok"), ("book", "-"))

    def test_a_refused_line_is_not_kept_and_takes_none_away(self):
        desk = Desk()
        desk.say("part a 1.0.0")
        for line in ("need b x", "part b 1", "nothing", "shelf ", "shelf x", "part b 1.0.0+mine"):
            self.refused(desk, NoLine, line)
        self.refused(desk, NoName, "drop a")
        self.refused(desk, Stuck, "want a *")
        self.says(desk, ("shelf", "ok"), ("want a *", "a 1.0.0"))


class TestNoLine(Desks):
    LINES = [
        "", " ", "\n", "x", "-", "ok", "Book", "BOOK", "books", "boo", "shelves", "lifted", "wants lib *", "wanted",
        "partlib 1.0.0", "part", "need", "want", "drop", "newest", "lies", "words", "write", "parts", "part ", "need ",
        "want ", "drop ", "newest ", "lies ", "words ", "write ", "parts ", "lib *", "* lib want",
    ]
    FORMS = ["shelf", "lift", "book", "part q 1.2.0", "need q *", "want lib *", "drop lib", "newest lib",
             "lies 1.0.0 *", "words *", "write *", "parts * / *"]

    def none(self, *lines):
        desk = self.desk("want lib 1")
        for line in lines:
            self.refused(desk, NoLine, line)
        self.says(desk, ("book", "lib 1.5.0"))

    def test_another_first_word(self):
        self.none(*self.LINES)
        self.none(*["x" + line for line in self.FORMS], *[line.upper() for line in self.FORMS])
        self.none(*[line.capitalize() for line in self.FORMS], *["say " + line for line in self.FORMS])

    def test_a_word_too_few(self):
        self.none(*[line.rpartition(" ")[0] for line in self.FORMS])
        self.none("part q", "part 1.2.0", "need *", "want *", "lies 1.0.0", "lies *", "parts *", "parts * *", "parts /")

    def test_a_word_too_many(self):
        self.none(*[line + " x" for line in self.FORMS])
        self.none("shelf shelf", "lift lib", "book lib", "part q 1.2.0 *", "part q r 1.2.0", "need q r *",
                  "want lib lib *", "drop lib lib", "drop lib *", "newest lib *", "newest lib 1.0.0",
                  "lies 1.0.0 2.0.0 *", "words lib *", "write 1.0.0 *", "parts lib * / *",
                  "need q =1.0.0 lib", "want q * 1.0.0")

    def test_two_blanks(self):
        for line in self.FORMS:
            for k, sign in enumerate(line):
                if sign == " ":
                    self.none(line[:k] + " " + line[k:])
        self.none("want lib 1  | 2", "words *  *", "write 1 |  2", "parts 1  | 2 / *", "lies 1.0.0 1 |  2")

    def test_a_blank_at_an_end(self):
        self.none(*[" " + line for line in self.FORMS], *[line + " " for line in self.FORMS])

    def test_other_signs_for_blanks(self):
        self.none(*[line + "\n" for line in self.FORMS], *["\n" + line for line in self.FORMS])
        self.none(*[line.replace(" ", "\n") for line in self.FORMS if " " in line])
        self.none("drop lib\n", "want lib\n*", "book\nbook")

    def test_a_name_that_is_none(self):
        for name in ("", "A", "Lib", "abcdefghi", "a1", "1", "a.b", "lib,", "-", "*", "a/b"):
            self.none(f"part {name} 1.2.0", f"need {name} *", f"want {name} *", f"drop {name}", f"newest {name}")

    def test_a_make_that_is_none(self):
        for text in ("", "1", "1.2", "1.2.3.4", "01.2.3", "1.2.3-", "1.2.3-A", "x", "=1.2.3", "1.2.3-01", "-1.2.3", "*",
                     "1000000000000000.0.0", "1.2.3-" + ".".join("a" * 13), "1.2.3-abcdefghi", "1..3"):
            self.none(f"part q {text}", f"lies {text} *")

    def test_a_make_with_notes(self):
        for text in ("1.2.3+mine", "1.2.3-a+mine.b", "1.2.3+"):
            self.none(f"part q {text}", f"lies {text} *", f"lies 1.2.3 ={text}", f"words ={text}", f"want lib >={text}",
                      f"parts ={text} / *", f"need q [{text},]")

    def test_a_span_that_is_none(self):
        for text in ("", "1.0.0", "|", "* |", "| *", "* | | *", "x", "[1.0.0, 2.0.0]", "^", "01", "[1.0.0]", "none x",
                     "**", "=1.0", "<", "*|*", "*,*", "1.2.3.4", "> 1.0.0", "/", "* /", "/ *", "* / *"):
            self.none(f"need q {text}", f"want lib {text}", f"lies 1.0.0 {text}", f"words {text}", f"write {text}",
                      f"parts {text} / * / *", f"parts * / {text} / *")
            if "/" not in text:
                self.none(f"parts {text} / *", f"parts * / {text}")

    def test_parts_without_its_sign_or_a_side(self):
        self.none("parts", "parts ", "parts /", "parts / ", "parts  /", "parts  / ", "parts / *", "parts * /",
                  "parts  / *", "parts * / ", "parts *", "parts * *", "parts */*", "parts * /*", "parts */ *",
                  "parts * // *", "parts * / / *", "parts * / * /", "parts / * / *", "parts * / * / *", "parts * | *",
                  "parts 1 , 2", "parts * | / *", "parts * / | *")

    def test_ahead_of_all_else(self):
        desk = self.desk("want lib 1", "need x *")
        for line in ("drop gone gone", "drop tool ", "newest gone x", "newest tool ", "want gone x", "want gone",
                     "want gone |", "want lib none x", "drop Gone", "newest gOne", "shelf x", "shelf "):
            self.refused(desk, NoLine, line)
        self.assertEqual(self.refused(desk, NoShelf, "shelf").place, 0)

    def test_a_long_line(self):
        self.none("x" * 10000, "want lib " + "1 | " * 2497, "words " + "* " * 4990, "drop " + "a" * 9990)
        self.says(Desk(), ("words " + " | ".join(["1"] * 2400), "1"), ("lies 1.0.0 " + " ".join(["1"] * 4900), "yes"))


class TestApart(Desks):
    def test_two_desks(self):
        one, other = self.desk("want lib 1"), self.desk("want app 2")
        self.says(one, ("part x 1.0.0", "ok"), ("book", "lib 1.5.0"))
        self.says(other, ("book", "app 2.0.0, lib 2.0.0, tool 1.0.0"), ("shelf", "ok"), ("book", "-"))
        self.refused(other, Stuck, "want x *")
        self.says(one, ("book", "lib 1.5.0"), ("shelf", "ok"), ("want x *", "x 1.0.0"))
        self.says(Desk(), ("book", "-"))

    def test_a_desk_from_the_begin_again(self):
        for _ in range(2):
            self.says(self.desk(), ("want app *", "app 2.0.0, lib 2.0.0, tool 1.0.0"),
                      ("want tool 2", "app 1.0.0, lib 1.5.0, tool 2.0.0"))


if __name__ == "__main__":
    unittest.main()
