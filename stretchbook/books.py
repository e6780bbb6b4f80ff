"""Books: which needs they break, and how far their parts may be taken newer (points 19 to 22)."""

from stretchbook.errors import NoName
from stretchbook.shelves import makes_of, needs_of
from stretchbook.spans import lies_in


def needs_at_work(shelf, wants, book):
    needs = [("", name, span) for name, span in wants]
    for by, make in book:
        needs.extend([(by, name, span) for name, span in needs_of(shelf, by, make)])
    return needs


def is_kept(need, taken):
    return need[1] in taken and lies_in(taken[need[1]], need[2])


def broken(shelf, wants, book):
    taken = dict(book)
    return [need for need in needs_at_work(shelf, wants, book) if not is_kept(need, taken)]


def is_sound(shelf, wants, book):
    return not broken(shelf, wants, book)


def reached(shelf, wants, book):
    # The names of the book that are reached, as the keys of a dict.
    taken = dict(book)
    names = {}
    left = [name for name, span in wants]
    while left:
        name = left.pop()
        if name in taken and name not in names:
            names[name] = True
            left.extend([need[0] for need in needs_of(shelf, name, taken[name])])
    return names


def is_tidy(shelf, wants, book):
    return len(reached(shelf, wants, book)) == len(book)


def with_make(book, name, make):
    return tuple([(other, make if other == name else taken) for other, taken in book])


def newest(shelf, wants, book, name):
    taken = dict(book)
    if name not in taken:
        raise NoName(f"the book has no {name}")
    makes = makes_of(shelf, name)
    whys = []
    # The make that the book has leaves it sound, so the walk ends there at the latest.
    for make in makes[:makes.index(taken[name])]:
        against = broken(shelf, wants, with_make(book, name, make))
        if not against:
            return (make, whys)
        whys.append((make, against[0]))
    return (taken[name], whys)


def lifted_once(shelf, wants, book):
    for name, make in book:
        found = newest(shelf, wants, book, name)[0]
        if found != make:
            return with_make(book, name, found)
    return book


def lifted(shelf, wants, book):
    higher = lifted_once(shelf, wants, book)
    while higher != book:
        book = higher
        higher = lifted_once(shelf, wants, book)
    return book
