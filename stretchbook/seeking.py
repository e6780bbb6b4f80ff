"""The first book of a shelf and wants, or a paper that shows that there is none (points 23 to 25)."""

from stretchbook.books import is_kept, needs_at_work
from stretchbook.shelves import makes_of


def rests_on(paper, name):
    # Whether the paper speaks of a need by this name, or of one that its make breaks.
    if paper[0] == "broken":
        return name in paper[1:3]
    return name == paper[2] or any([rests_on(row[1], name) for row in paper[3]])


def sought_with(shelf, wants, choices, need):
    name = need[1]
    papers = []
    for make in makes_of(shelf, name):
        found = sought_behind(shelf, wants, choices + ((name, make),))
        if found[0] == "book":
            return ("book", found[1], [(name, make, tuple(papers))] + found[2])
        # A paper that doesn't rest on this choice is one for the choices ahead
        # of it, too, so no other make of the name needs a try.
        if not rests_on(found[1], name):
            return found
        papers.append((make, found[1]))
    return ("stuck", ("open", name, need[0], tuple(papers)))


def sought_behind(shelf, wants, choices):
    needs = needs_at_work(shelf, wants, choices)
    chosen = dict(choices)
    for need in needs:
        if need[1] in chosen and not is_kept(need, chosen):
            return ("stuck", ("broken",) + need)
    left = [need for need in needs if need[1] not in chosen]
    if not left:
        return ("book", tuple(sorted(choices)), [])
    return sought_with(shelf, wants, choices, min(left, key=lambda other: other[1]))


def sought(shelf, wants):
    return sought_behind(shelf, wants, ())
