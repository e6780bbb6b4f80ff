"""The lock: wants, and a book that keeps to them from want to want (point 27)."""

from stretchbook.books import is_sound, lifted, newest, reached
from stretchbook.errors import NoName, Stuck
from stretchbook.seeking import sought


def with_want(wants, name, span):
    if name not in dict(wants):
        return wants + ((name, span),)
    return tuple([(other, span if other == name else wanted) for other, wanted in wants])


def book_behind(shelf, wants, book):
    # The book for these wants, where the one so far is given.
    if is_sound(shelf, wants, book):
        names = reached(shelf, wants, book)
        return tuple([taken for taken in book if taken[0] in names])
    found = sought(shelf, wants)
    if found[0] == "stuck":
        raise Stuck(found[1])
    return found[1]


class Lock:
    def __init__(self, shelf):
        self.shelf = shelf
        self.wanted = ()
        self.taken = ()

    def settle(self, wants):
        # The book is told first: where it is refused, the wants stay as they were.
        self.taken = book_behind(self.shelf, wants, self.taken)
        self.wanted = wants

    def want(self, name, span):
        self.settle(with_want(self.wanted, name, span))

    def drop(self, name):
        if name not in dict(self.wanted):
            raise NoName(f"{name} is not wanted")
        self.settle(tuple([need for need in self.wanted if need[0] != name]))

    def lift(self):
        self.taken = lifted(self.shelf, self.wanted, self.taken)

    def wants(self):
        return self.wanted

    def book(self):
        return self.taken

    def newest(self, name):
        return newest(self.shelf, self.wanted, self.taken, name)
