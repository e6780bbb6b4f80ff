"""What the tests share: makes at hand, and plain words for spans, their texts, books and papers."""

import itertools

from stretchbook.makes import OLDEST, is_make, is_older, newest_first, next_make, read_make
from stretchbook.reading import read_span

NEWEST_NUMBER = 10 ** 15 - 1
LAST_MARKS = ("zzzzzzzz",) * 12
FAR = (NEWEST_NUMBER, NEWEST_NUMBER, NEWEST_NUMBER, ())


def make(great, middle=0, small=0, marks=()):
    return (great, middle, small, marks)


def forty(first, step):
    return tuple([(make(first + step * k), make(first + step * k + 1)) for k in range(40)])


def m(text):
    return read_make(text)[0]


def oldest_first(makes):
    return list(reversed(newest_first(list(dict.fromkeys(makes)))))


def edges_in(spans):
    return [edge for span in spans for piece in span for edge in piece if edge is not None]


def lies(one, span):
    """Point 9, told in another way than the program does: by places in a sorted list."""
    edges = edges_in([span])
    return sum(1 for edge in edges if not is_older(one, edge)) % 2 == 1


def spans_over(makes):
    """Every span whose edges are among these makes, given the oldest first."""
    for count in range(len(makes) + 1):
        for edges in itertools.combinations(makes, count):
            ends = edges + (None,)
            yield tuple([(edges[k], ends[k + 1]) for k in range(0, count, 2)])


def stands_as_a_span(thing):
    """The form of point 9, kinds and all."""
    if type(thing) is not tuple:
        return False
    for k, piece in enumerate(thing):
        if type(piece) is not tuple or len(piece) != 2 or not is_make(piece[0]):
            return False
        if piece[1] is None:
            if k != len(thing) - 1:
                return False
        elif not is_make(piece[1]) or not is_older(piece[0], piece[1]):
            return False
        if k and not is_older(thing[k - 1][1], piece[0]):
            return False
    return True


def just_ahead(one):
    """Makes older than this one with nothing, or next to nothing, between."""
    great, middle, small, marks = one
    if marks == ():
        return [(great, middle, small, LAST_MARKS), (great, middle, small, ("a",))]
    rest, last = marks[:-1], marks[-1]
    if last == 0 and rest:
        return [(great, middle, small, rest)]
    if last == 0:
        if small:
            return [(great, middle, small - 1, ())]
        if middle:
            return [(great, middle - 1, NEWEST_NUMBER, ())]
        return [(great - 1, NEWEST_NUMBER, NEWEST_NUMBER, ())] if great else []
    if isinstance(last, int):
        lesser = rest + (last - 1,)
        return [(great, middle, small, lesser), (great, middle, small, (lesser + LAST_MARKS)[:12])]
    return [(great, middle, small, rest + (NEWEST_NUMBER,))]


def beside(makes):
    """These makes, and those right beside them, the oldest first."""
    asked = [OLDEST, next_make(OLDEST), FAR]
    for one in makes:
        asked += [one, next_make(one)] + just_ahead(one)
    return oldest_first(asked)


def makes_in(text):
    """The makes at which what a text says can turn."""
    found = []
    for word in text.split(" "):
        core = word.strip("[]()!=<>^~")
        for piece in core.split(","):
            told = read_make(piece)
            if told is not None:
                one = told[0]
                found += [one, (one[0] + 1, 0, 0, (0,)), (one[0], one[1] + 1, 0, (0,)),
                          (one[0], one[1], one[2] + 1, (0,))]
            elif piece and piece.replace(".", "").isdigit():
                numbers = [int(part) for part in piece.split(".")]
                found += [tuple((numbers + [0, 0])[:3]) + ((0,),), (numbers[0] + 1, 0, 0, (0,))]
                if len(numbers) == 2:
                    found.append((numbers[0], numbers[1] + 1, 0, (0,)))
    return found


def not_older(one, other):
    return not is_older(one, other)


def in_caret(one, low):
    if not_older(one, low):
        if low[0]:
            return is_older(one, (low[0] + 1, 0, 0, (0,)))
        if low[1]:
            return is_older(one, (0, low[1] + 1, 0, (0,)))
        return is_older(one, (0, 0, low[2] + 1, (0,)))
    return False


def in_tilde(one, low):
    return not_older(one, low) and is_older(one, (low[0], low[1] + 1, 0, (0,)))


SIGNS = {
    "=": lambda one, told: one == told,
    "!=": lambda one, told: one != told,
    "<": is_older,
    "<=": lambda one, told: is_older(one, told) or one == told,
    ">": lambda one, told: is_older(told, one),
    ">=": not_older,
    "^": in_caret,
    "~": in_tilde,
}


def in_brackets(one, word):
    first, second = word[1:-1].split(",")
    if first and not (is_older(m(first), one) or (word[0] == "[" and one == m(first))):
        return False
    return not second or is_older(one, m(second)) or (word[-1] == "]" and one == m(second))


def in_term(one, word):
    """Point 12, term by term, of a word that is a term."""
    if word in ("*", "none"):
        return word == "*"
    if word[0] in "[(":
        return in_brackets(one, word)
    if word[0].isdigit():
        return list(one[:word.count(".") + 1]) == [int(part) for part in word.split(".")]
    sign = word[:2] if word[:2] in SIGNS else word[:1]
    return SIGNS[sign](one, m(word[len(sign):]))


def in_text(one, text):
    """Whether a make lies in all terms of one of the alternatives."""
    return any(all(in_term(one, word) for word in part.split(" ")) for part in text.split(" | "))


def wants(*texts):
    """Needs, each of a text of its name and span."""
    return tuple([(text.partition(" ")[0], read_span(text.partition(" ")[2])) for text in texts])


def book(text):
    """A book, of a text of names and makes."""
    words = text.split()
    return tuple([(words[k], m(words[k + 1])) for k in range(0, len(words), 2)])


def need(by, name, text):
    return (by, name, read_span(text))


def makes_on(shelf, name):
    """The makes of a name, the newest first."""
    return list(reversed(oldest_first([entry[1] for entry in shelf if entry[0] == name])))


def at_work(shelf, wanted, taken):
    """Point 19: the needs at work of the wants, then of each entry that is taken."""
    needs = [("", name, span) for name, span in wanted]
    for by, one in taken:
        for name, other, own in shelf:
            if (name, other) == (by, one):
                needs += [(by, needed, span) for needed, span in own]
    return needs


def broken_plainly(shelf, wanted, taken):
    """Point 19, told in another way than the program does: what the book lacks, by name."""
    makes = dict(taken)
    return [one for one in at_work(shelf, wanted, sorted(taken))
            if one[1] not in makes or not lies(makes[one[1]], one[2])]


def reached_plainly(shelf, wanted, taken):
    """Point 20: reached in no step, then in one step more each time."""
    names = {name for name, _ in wanted}
    for _ in taken:
        names |= {needed for name, one, needs in shelf if (name, one) in taken and name in names for needed, _ in needs}
    return names


def tidy_plainly(shelf, wanted, taken):
    return all(name in reached_plainly(shelf, wanted, taken) for name, _ in taken)


def swapped(taken, name, one):
    return tuple(sorted(((set(taken) - {(name, dict(taken)[name])}) | {(name, one)}), key=lambda pair: pair[0]))


def newest_plainly(shelf, wanted, taken, name):
    """Point 21: the newest make that leaves the book sound."""
    return [one for one in makes_on(shelf, name) if not broken_plainly(shelf, wanted, swapped(taken, name, one))][0]


def lifted_plainly(shelf, wanted, taken):
    """Point 22, from the first name on again behind each lift."""
    for name, one in taken:
        found = newest_plainly(shelf, wanted, taken, name)
        if is_older(one, found):
            return lifted_plainly(shelf, wanted, swapped(taken, name, found))
    return taken


def first_book(shelf, wanted, choices=()):
    """Point 23, by its words: the first book behind these choices, or None."""
    makes = dict(choices)
    needs = at_work(shelf, wanted, choices)
    if any(name in makes and not lies(makes[name], span) for _, name, span in needs):
        return None
    left = sorted(name for _, name, _ in needs if name not in makes)
    if not left:
        return tuple(sorted(choices))
    for one in makes_on(shelf, left[0]):
        found = first_book(shelf, wanted, choices + ((left[0], one),))
        if found is not None:
            return found
    return None


def every_book(shelf):
    names = sorted({entry[0] for entry in shelf})
    for picked in itertools.product(*[[None] + makes_on(shelf, name) for name in names]):
        yield tuple([(name, one) for name, one in zip(names, picked) if one is not None])


def shows(shelf, wanted, choices, paper):
    """Point 24, by its words: whether this is a paper for these choices, kinds and all."""
    if type(paper) is not tuple or len(paper) != 4:
        return False
    needs = at_work(shelf, wanted, choices)
    chosen = [name for name, _ in choices]
    if paper[0] == "broken":
        return paper[1:] in needs and any(name == paper[2] and not lies(made, paper[3]) for name, made in choices)
    _, name, by, rows = paper
    if paper[0] != "open" or name in chosen or (by, name) not in [one[:2] for one in needs]:
        return False
    if type(rows) is not tuple or any(type(row) is not tuple or len(row) != 2 for row in rows):
        return False
    return [row[0] for row in rows] == makes_on(shelf, name) and all(
        shows(shelf, wanted, choices + ((name, made),), behind) for made, behind in rows)


def random_shelf(chance, names, spans, many):
    """Lines of a shelf: some makes of each name, of each other name a need with this chance, of gone a rare one."""
    lines = []
    for name in names:
        for great in chance.sample(range(1, 5), chance.randint(1, 4)):
            lines.append(f"part {name} {great}.0.0")
            for other in names:
                if other != name and chance.random() < many:
                    lines.append(f"need {other} {chance.choice(spans)}")
            if chance.random() < 0.04:
                lines.append("need gone *")
    return lines


class PlainLock:
    """Point 27, by its words; a refusal is told by its name."""

    def __init__(self, shelf):
        self.shelf, self.wanted, self.taken = shelf, (), ()

    def behind(self, wanted):
        if broken_plainly(self.shelf, wanted, self.taken):
            taken = first_book(self.shelf, wanted)
        else:
            names = reached_plainly(self.shelf, wanted, self.taken)
            taken = tuple([pair for pair in self.taken if pair[0] in names])
        if taken is None:
            return "Stuck"
        self.wanted, self.taken = wanted, taken
        return None

    def want(self, name, span):
        wanted = dict(self.wanted)
        wanted[name] = span
        return self.behind(tuple(wanted.items()))

    def drop(self, name):
        wanted = dict(self.wanted)
        if wanted.pop(name, None) is None:
            return "NoName"
        return self.behind(tuple(wanted.items()))

    def lift(self):
        self.taken = lifted_plainly(self.shelf, self.wanted, self.taken)
