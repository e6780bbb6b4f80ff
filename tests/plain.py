"""What the tests share: makes at hand, spans told plainly, and their words read make by make."""

import itertools

from stretchbook.makes import OLDEST, is_make, is_older, newest_first, next_make, read_make

NEWEST_NUMBER = 10 ** 15 - 1
LAST_MARKS = ("zzzzzzzz",) * 12
FAR = (NEWEST_NUMBER, NEWEST_NUMBER, NEWEST_NUMBER, ())


def make(great, middle=0, small=0, marks=()):
    return (great, middle, small, marks)


def forty(first, step):
    return tuple([(make(first + step * k), make(first + step * k + 1)) for k in range(40)])


def m(text):
    return read_make(text)[0]


def oldest_first(makes):
    return list(reversed(newest_first(list(dict.fromkeys(makes)))))


def edges_in(spans):
    return [edge for span in spans for piece in span for edge in piece if edge is not None]


def lies(one, span):
    """Point 9, told in another way than the program does: by places in a sorted list."""
    edges = edges_in([span])
    return sum(1 for edge in edges if not is_older(one, edge)) % 2 == 1


def spans_over(makes):
    """Every span whose edges are among these makes, given the oldest first."""
    for count in range(len(makes) + 1):
        for edges in itertools.combinations(makes, count):
            ends = edges + (None,)
            yield tuple([(edges[k], ends[k + 1]) for k in range(0, count, 2)])


def stands_as_a_span(thing):
    """The form of point 9, kinds and all."""
    if type(thing) is not tuple:
        return False
    for k, piece in enumerate(thing):
        if type(piece) is not tuple or len(piece) != 2 or not is_make(piece[0]):
            return False
        if piece[1] is None:
            if k != len(thing) - 1:
                return False
        elif not is_make(piece[1]) or not is_older(piece[0], piece[1]):
            return False
        if k and not is_older(thing[k - 1][1], piece[0]):
            return False
    return True


def just_ahead(one):
    """Makes older than this one with nothing, or next to nothing, between."""
    great, middle, small, marks = one
    if marks == ():
        return [(great, middle, small, LAST_MARKS), (great, middle, small, ("a",))]
    rest, last = marks[:-1], marks[-1]
    if last == 0 and rest:
        return [(great, middle, small, rest)]
    if last == 0:
        if small:
            return [(great, middle, small - 1, ())]
        if middle:
            return [(great, middle - 1, NEWEST_NUMBER, ())]
        return [(great - 1, NEWEST_NUMBER, NEWEST_NUMBER, ())] if great else []
    if isinstance(last, int):
        lesser = rest + (last - 1,)
        return [(great, middle, small, lesser), (great, middle, small, (lesser + LAST_MARKS)[:12])]
    return [(great, middle, small, rest + (NEWEST_NUMBER,))]


def beside(makes):
    """These makes, and those right beside them, the oldest first."""
    asked = [OLDEST, next_make(OLDEST), FAR]
    for one in makes:
        asked += [one, next_make(one)] + just_ahead(one)
    return oldest_first(asked)


def makes_in(text):
    """The makes at which what a text says can turn."""
    found = []
    for word in text.split(" "):
        core = word.strip("[]()!=<>^~")
        for piece in core.split(","):
            told = read_make(piece)
            if told is not None:
                one = told[0]
                found += [one, (one[0] + 1, 0, 0, (0,)), (one[0], one[1] + 1, 0, (0,)),
                          (one[0], one[1], one[2] + 1, (0,))]
            elif piece and piece.replace(".", "").isdigit():
                numbers = [int(part) for part in piece.split(".")]
                found += [tuple((numbers + [0, 0])[:3]) + ((0,),), (numbers[0] + 1, 0, 0, (0,))]
                if len(numbers) == 2:
                    found.append((numbers[0], numbers[1] + 1, 0, (0,)))
    return found


def not_older(one, other):
    return not is_older(one, other)


def in_caret(one, low):
    if not_older(one, low):
        if low[0]:
            return is_older(one, (low[0] + 1, 0, 0, (0,)))
        if low[1]:
            return is_older(one, (0, low[1] + 1, 0, (0,)))
        return is_older(one, (0, 0, low[2] + 1, (0,)))
    return False


def in_tilde(one, low):
    return not_older(one, low) and is_older(one, (low[0], low[1] + 1, 0, (0,)))


SIGNS = {
    "=": lambda one, told: one == told,
    "!=": lambda one, told: one != told,
    "<": is_older,
    "<=": lambda one, told: is_older(one, told) or one == told,
    ">": lambda one, told: is_older(told, one),
    ">=": not_older,
    "^": in_caret,
    "~": in_tilde,
}


def in_brackets(one, word):
    first, second = word[1:-1].split(",")
    if first and not (is_older(m(first), one) or (word[0] == "[" and one == m(first))):
        return False
    return not second or is_older(one, m(second)) or (word[-1] == "]" and one == m(second))


def in_term(one, word):
    """Point 12, term by term, of a word that is a term."""
    if word in ("*", "none"):
        return word == "*"
    if word[0] in "[(":
        return in_brackets(one, word)
    if word[0].isdigit():
        return list(one[:word.count(".") + 1]) == [int(part) for part in word.split(".")]
    sign = word[:2] if word[:2] in SIGNS else word[:1]
    return SIGNS[sign](one, m(word[len(sign):]))


def in_text(one, text):
    """Whether a make lies in all terms of one of the alternatives."""
    return any(all(in_term(one, word) for word in part.split(" ")) for part in text.split(" | "))
