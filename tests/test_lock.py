"""Point 27, and points 2, 3 and 4 of locks: stretchbook.lock."""

import random
import unittest

from stretchbook.errors import NoLine, NoName, NoShelf, NoSpan, SpanError, Stuck
from stretchbook.lock import Lock
from stretchbook.reading import read_span
from stretchbook.shelves import read_shelf
from stretchbook.spans import ALL
from tests.plain import (PlainLock, book, broken_plainly, m, make, makes_on, need, newest_plainly, random_shelf, shows,
                         swapped, tidy_plainly, wants)

SHELF = read_shelf([
    "part app 1.0.0", "need lib 1", "part app 2.0.0", "need lib 2", "need tool *",
    "part lib 1.0.0", "part lib 1.5.0", "part lib 2.0.0", "part lib 3.0.0",
    "part tool 1.0.0", "part tool 2.0.0", "need lib <2.0.0",
])


class Locks(unittest.TestCase):
    def lock(self, *texts):
        """A lock of the shelf, with these wants put one behind the other."""
        lock = Lock(SHELF)
        for name, span in wants(*texts):
            self.assertIsNone(lock.want(name, span))
        return lock

    def stands(self, lock, wanted, taken):
        self.assertEqual(lock.wants(), wanted)
        self.assertEqual(lock.book(), book(taken))
        self.assertEqual([type(lock.wants()), type(lock.book())], [tuple, tuple])

    def refused(self, lock, kind, call):
        """What is refused, behind which the lock is as ahead."""
        before = (lock.wants(), lock.book())
        with self.assertRaises(kind) as caught:
            call()
        self.assertEqual((lock.wants(), lock.book()), before)
        self.assertIs(type(caught.exception), kind)
        self.assertIsInstance(caught.exception, SpanError)
        self.assertIsInstance(caught.exception, ValueError)
        for other in (NoSpan, NoShelf, NoName, NoLine, Stuck):
            self.assertEqual(isinstance(caught.exception, other), other is kind)
        return caught.exception

    def stuck(self, lock, name, text, wanted, shelf=SHELF):
        """A want that no book meets; the paper is one for no choices of the wants then."""
        refusal = self.refused(lock, Stuck, lambda: lock.want(name, read_span(text)))
        self.assertTrue(shows(shelf, wanted, (), refusal.paper), refusal.paper)


class TestWants(Locks):
    def test_none_at_first(self):
        self.stands(Lock(SHELF), (), "")
        self.stands(Lock(()), (), "")

    def test_a_want_of_a_new_name(self):
        self.stands(self.lock("lib *"), wants("lib *"), "lib 3.0.0")
        self.stands(self.lock("lib *", "app *"), wants("lib *", "app *"), "app 2.0.0 lib 2.0.0 tool 1.0.0")
        self.stands(self.lock("tool 1", "app 1", "lib *"), wants("tool 1", "app 1", "lib *"),
                    "app 1.0.0 lib 1.5.0 tool 1.0.0")

    def test_a_want_in_the_place_of_an_earlier_one(self):
        lock = self.lock("tool *", "lib *", "app *")
        for name, text, wanted in (("lib", "2", ("tool *", "lib 2", "app *")),
                                   ("tool", "1", ("tool 1", "lib 2", "app *")),
                                   ("app", "2", ("tool 1", "lib 2", "app 2")),
                                   ("lib", "*", ("tool 1", "lib *", "app 2"))):
            lock.want(name, read_span(text))
            self.assertEqual(lock.wants(), wants(*wanted))

    def test_the_same_want_again(self):
        lock = self.lock("lib 1", "app *")
        lock.want("lib", read_span("1"))
        self.stands(lock, wants("lib 1", "app *"), "app 1.0.0 lib 1.5.0")

    def test_a_want_dropped(self):
        lock = self.lock("tool *", "lib *", "app *")
        self.assertIsNone(lock.drop("lib"))
        self.assertEqual(lock.wants(), wants("tool *", "app *"))
        lock.drop("tool")
        self.assertEqual(lock.wants(), wants("app *"))
        lock.drop("app")
        self.stands(lock, (), "")

    def test_a_dropped_want_comes_behind_all_others_again(self):
        lock = self.lock("tool *", "lib *")
        lock.drop("tool")
        lock.want("tool", ALL)
        self.assertEqual(lock.wants(), wants("lib *", "tool *"))

    def test_a_want_dropped_that_is_not_wanted(self):
        self.refused(Lock(SHELF), NoName, lambda: Lock(SHELF).drop("lib"))
        lock = self.lock("app *")
        for name in ("lib", "tool", "ap", "appa", "gone", "zz"):
            self.refused(lock, NoName, lambda: lock.drop(name))
        lock.drop("app")
        self.refused(lock, NoName, lambda: lock.drop("app"))

    def test_what_is_given_back(self):
        lock = self.lock("app *")
        self.assertIsNone(lock.want("tool", ALL))
        self.assertIsNone(lock.want("tool", ALL))
        self.assertIsNone(lock.lift())
        self.assertIsNone(lock.drop("tool"))


class TestBook(Locks):
    def test_a_book_that_stays(self):
        # The first book of the wants then would take newer ones.
        lock = self.lock("lib 1")
        lock.want("lib", ALL)
        self.stands(lock, wants("lib *"), "lib 1.5.0")
        lock.want("lib", read_span("<2.0.0 | =3.0.0"))
        self.stands(lock, wants("lib <2.0.0 | =3.0.0"), "lib 1.5.0")
        lock = self.lock("app 1", "lib *")
        lock.drop("lib")
        lock.want("app", ALL)
        self.stands(lock, wants("app *"), "app 1.0.0 lib 1.5.0")

    def test_but_for_the_names_that_are_not_reached_then(self):
        lock = self.lock("app 1", "tool 1")
        self.stands(lock, wants("app 1", "tool 1"), "app 1.0.0 lib 1.5.0 tool 1.0.0")
        lock.drop("tool")
        self.stands(lock, wants("app 1"), "app 1.0.0 lib 1.5.0")
        lock.want("lib", ALL)
        lock.drop("app")
        self.stands(lock, wants("lib *"), "lib 1.5.0")
        lock.drop("lib")
        self.stands(lock, (), "")

    def test_a_name_that_another_one_reaches_stays(self):
        lock = self.lock("app 2", "tool *")
        lock.drop("tool")
        self.stands(lock, wants("app 2"), "app 2.0.0 lib 2.0.0 tool 1.0.0")

    def test_a_ring_goes_as_a_whole(self):
        shelf = read_shelf(["part a 1.0.0", "need b *", "part b 1.0.0", "need a *", "part c 1.0.0"])
        lock = Lock(shelf)
        lock.want("a", ALL)
        lock.want("c", ALL)
        self.stands(lock, wants("a *", "c *"), "a 1.0.0 b 1.0.0 c 1.0.0")
        lock.drop("a")
        self.stands(lock, wants("c *"), "c 1.0.0")

    def test_names_that_lifting_leaves_go_with_the_next_want(self):
        shelf = read_shelf(["part a 1.0.0", "need b *", "part a 2.0.0", "part b 1.0.0", "part c 1.0.0"])
        lock = Lock(shelf)
        lock.want("a", read_span("1"))
        lock.want("a", ALL)
        lock.lift()
        self.stands(lock, wants("a *"), "a 2.0.0 b 1.0.0")
        lock.want("a", read_span("2"))
        self.stands(lock, wants("a 2"), "a 2.0.0")

    def test_a_book_that_has_to_be_sought_anew(self):
        lock = self.lock("lib 1")
        lock.want("lib", read_span(">=2.0.0"))
        self.stands(lock, wants("lib >=2.0.0"), "lib 3.0.0")
        # app is not there yet: all is sought anew, so lib goes newer, too.
        lock = self.lock("lib 1")
        lock.want("lib", ALL)
        lock.want("app", ALL)
        self.stands(lock, wants("lib *", "app *"), "app 2.0.0 lib 2.0.0 tool 1.0.0")

    def test_the_order_of_the_wants_turns_nothing(self):
        shelf = read_shelf(["part a 1.0.0", "part a 2.0.0", "need b 1", "part b 1.0.0", "part b 2.0.0", "need a 1"])
        lock = Lock(shelf)
        lock.want("b", ALL)
        self.stands(lock, wants("b *"), "a 1.0.0 b 2.0.0")
        lock.want("b", read_span("* | none"))
        lock.want("a", ALL)
        self.stands(lock, wants("b *", "a *"), "a 1.0.0 b 2.0.0")
        lock.want("a", read_span(">1.0.0"))
        self.stands(lock, wants("b *", "a >1.0.0"), "a 2.0.0 b 1.0.0")

    def test_lift(self):
        lock = self.lock("app 1")
        lock.want("app", ALL)
        lock.lift()
        self.stands(lock, wants("app *"), "app 1.0.0 lib 1.5.0")
        lock = self.lock("lib =1.0.0")
        lock.want("lib", read_span("<3.0.0"))
        lock.lift()
        self.stands(lock, wants("lib <3.0.0"), "lib 2.0.0")
        lock.lift()
        self.stands(lock, wants("lib <3.0.0"), "lib 2.0.0")
        nothing = Lock(SHELF)
        nothing.lift()
        self.stands(nothing, (), "")


class TestRefusals(Locks):
    def test_a_want_that_no_book_meets(self):
        lock = Lock(SHELF)
        self.stuck(lock, "gone", "*", wants("gone *"))
        self.stuck(lock, "app", ">2.0.0", wants("app >2.0.0"))
        self.stuck(lock, "app", "none", wants("app none"))
        self.stuck(Lock(()), "app", "*", wants("app *"), shelf=())

    def test_a_want_that_others_stand_against(self):
        lock = self.lock("tool 2", "lib *")
        self.stands(lock, wants("tool 2", "lib *"), "lib 1.5.0 tool 2.0.0")
        self.stuck(lock, "lib", "2", wants("tool 2", "lib 2"))
        self.stuck(lock, "app", "2", wants("tool 2", "lib *", "app 2"))
        self.stuck(lock, "gone", "*", wants("tool 2", "lib *", "gone *"))
        self.stands(lock, wants("tool 2", "lib *"), "lib 1.5.0 tool 2.0.0")
        lock.want("app", ALL)
        self.stands(lock, wants("tool 2", "lib *", "app *"), "app 1.0.0 lib 1.5.0 tool 2.0.0")

    def test_behind_a_refusal_all_goes_on(self):
        lock = self.lock("lib 1")
        lock.want("lib", ALL)
        self.stuck(lock, "lib", "none", wants("lib none"))
        self.assertEqual(lock.newest("lib"), (m("3.0.0"), []))
        lock.lift()
        self.stands(lock, wants("lib *"), "lib 3.0.0")
        lock.drop("lib")
        self.stands(lock, (), "")


class TestNewest(Locks):
    def test_a_name_in_the_book(self):
        lock = self.lock("app 1", "lib <3.0.0")
        self.assertEqual(lock.newest("app"), (m("1.0.0"), [(m("2.0.0"), need("", "app", "1"))]))
        found, whys = lock.newest("lib")
        self.assertEqual((found, [why[0] for why in whys]), (m("1.5.0"), [m("3.0.0"), m("2.0.0")]))
        self.assertIn(whys[0][1], [need("", "lib", "<3.0.0"), need("app", "lib", "1")])
        self.assertEqual(whys[1][1], need("app", "lib", "1"))

    def test_a_name_that_is_not(self):
        self.refused(Lock(SHELF), NoName, lambda: Lock(SHELF).newest("lib"))
        lock = self.lock("app 1")
        for name in ("tool", "gone", "li", "zz"):
            self.refused(lock, NoName, lambda: lock.newest(name))
        lock.drop("app")
        self.refused(lock, NoName, lambda: lock.newest("lib"))

    def test_a_name_in_the_book_that_is_not_wanted(self):
        self.assertEqual(self.lock("tool 2").newest("lib")[0], m("1.5.0"))

    def test_asking_changes_nothing(self):
        lock = self.lock("app 1")
        told = lock.newest("app")
        told[1].clear()
        self.stands(lock, wants("app 1"), "app 1.0.0 lib 1.5.0")
        self.assertEqual(lock.newest("app"), (m("1.0.0"), [(m("2.0.0"), need("", "app", "1"))]))


class TestApart(Locks):
    def test_two_locks_of_one_shelf(self):
        one, other = Lock(SHELF), Lock(SHELF)
        one.want("lib", read_span("1"))
        self.stands(other, (), "")
        other.want("lib", ALL)
        self.stands(one, wants("lib 1"), "lib 1.5.0")
        self.stands(other, wants("lib *"), "lib 3.0.0")
        one.drop("lib")
        self.stands(other, wants("lib *"), "lib 3.0.0")
        self.refused(one, NoName, lambda: one.newest("lib"))

    def test_what_was_told_stays(self):
        lock = self.lock("lib 1")
        wanted, taken = lock.wants(), lock.book()
        lock.want("lib", ALL)
        lock.lift()
        lock.want("app", ALL)
        self.assertEqual((wanted, taken), (wants("lib 1"), book("lib 1.5.0")))


class TestManyLocks(Locks):
    NAMES = ["a", "b", "ab", "ba", "c"]
    TEXTS = ["*", "*", "1", "2", "3", "1 | 2", "2 | 3", "3 | 4", "!=2.0.0", ">=2.0.0", "<3.0.0", "none"]

    def step(self, chance, lock, plain):
        name = chance.choice(self.NAMES + ["gone"] * (chance.random() < 0.1))
        kind = chance.choice(["want"] * 5 + ["drop"] * 2 + ["lift"])
        span = read_span(chance.choice(self.TEXTS))
        things = {"want": (name, span), "drop": (name,), "lift": ()}[kind]
        expected = getattr(plain, kind)(*things)
        try:
            self.assertIsNone(getattr(lock, kind)(*things))
            told = None
        except Stuck as refusal:
            told = "Stuck"
            self.assertEqual(kind, "want")
            wanted = dict(plain.wanted)
            wanted[name] = span
            self.assertTrue(shows(plain.shelf, tuple(wanted.items()), (), refusal.paper))
        except NoName:
            told = "NoName"
        self.assertEqual(told, expected)
        return kind + str(told)

    def same(self, lock, plain):
        self.assertEqual((lock.wants(), lock.book()), (plain.wanted, plain.taken))
        self.assertEqual(broken_plainly(plain.shelf, plain.wanted, plain.taken), [])
        for name, _ in plain.taken:
            found, whys = lock.newest(name)
            self.assertEqual(found, newest_plainly(plain.shelf, plain.wanted, plain.taken, name))
            makes = makes_on(plain.shelf, name)
            self.assertEqual([why[0] for why in whys], makes[:makes.index(found)])
            for newer, why in whys:
                self.assertIn(why, broken_plainly(plain.shelf, plain.wanted, swapped(plain.taken, name, newer)))

    def test_against_the_plain_words(self):
        chance = random.Random(27)
        seen = {}
        untidy = 0
        for _ in range(60):
            shelf = read_shelf(random_shelf(chance, self.NAMES, self.TEXTS, 0.2))
            lock, plain = Lock(shelf), PlainLock(shelf)
            for _ in range(30):
                kind = self.step(chance, lock, plain)
                seen[kind] = seen.get(kind, 0) + 1
                self.same(lock, plain)
                untidy += not tidy_plainly(shelf, plain.wanted, plain.taken)
        for kind in ("wantNone", "wantStuck", "dropNone", "dropNoName", "liftNone"):
            self.assertGreater(seen[kind], 100, seen)
        self.assertGreater(untidy, 0)

    def test_six_names_of_four_makes(self):
        names = "abcdef"
        others = {name: tuple([(other, read_span("* | none")) for other in names if other != name]) for name in names}
        shelf = tuple([(name, make(great), others[name]) for name in names for great in range(1, 5)])
        lock = Lock(shelf)
        lock.want("f", read_span("1"))
        self.stands(lock, wants("f 1"), "a 4.0.0 b 4.0.0 c 4.0.0 d 4.0.0 e 4.0.0 f 1.0.0")
        lock.want("f", ALL)
        lock.lift()
        self.stands(lock, wants("f *"), "a 4.0.0 b 4.0.0 c 4.0.0 d 4.0.0 e 4.0.0 f 4.0.0")


if __name__ == "__main__":
    unittest.main()
