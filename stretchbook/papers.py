"""Looking over papers, which show that choices lead to no book (points 24 and 26)."""

from stretchbook.books import is_kept, needs_at_work
from stretchbook.shelves import makes_of


def is_paper(shelf, wants, choices, paper):
    needs = needs_at_work(shelf, wants, choices)
    chosen = dict(choices)
    if paper[0] == "broken":
        need = paper[1:]
        return need in needs and need[1] in chosen and not is_kept(need, chosen)
    name = paper[1]
    rows = paper[3]
    if name in chosen or (paper[2], name) not in [need[:2] for need in needs]:
        return False
    if [row[0] for row in rows] != makes_of(shelf, name):
        return False
    return all([is_paper(shelf, wants, choices + ((name, make),), behind) for make, behind in rows])
