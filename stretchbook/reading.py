"""Reading spans that are written by words (points 12 and 13)."""

from stretchbook.errors import NoSpan
from stretchbook.makes import OLDEST, next_make, read_bare_make
from stretchbook.spans import ALL, joined, less, met, piece_span
from stretchbook.words import number_of

# Those of two signs stand first, as each begins with a sign that is one by itself.
SIGNS = ("!=", "<=", ">=", "=", "<", ">", "^", "~")


def middle_end(make):
    return (make[0], make[1] + 1, 0, (0,))


def great_end(make):
    if make[0] > 0:
        return (make[0] + 1, 0, 0, (0,))
    if make[1] > 0:
        return middle_end(make)
    return (0, 0, make[2] + 1, (0,))


def signed_span(sign, make):
    if sign == "=":
        return piece_span(make, next_make(make))
    if sign == "!=":
        return less(ALL, piece_span(make, next_make(make)))
    if sign == "<":
        return piece_span(OLDEST, make)
    if sign == "<=":
        return piece_span(OLDEST, next_make(make))
    if sign == ">":
        return piece_span(next_make(make), None)
    if sign == ">=":
        return piece_span(make, None)
    if sign == "^":
        return piece_span(make, great_end(make))
    return piece_span(make, middle_end(make))


def read_signed(word):
    for sign in SIGNS:
        if word.startswith(sign):
            make = read_bare_make(word[len(sign):])
            return None if make is None else signed_span(sign, make)
    return None


def read_numbered(word):
    numbers = [number_of(part) for part in word.split(".")]
    if len(numbers) > 2 or None in numbers:
        return None
    if len(numbers) == 1:
        return piece_span((numbers[0], 0, 0, (0,)), (numbers[0] + 1, 0, 0, (0,)))
    low = (numbers[0], numbers[1], 0, (0,))
    return piece_span(low, middle_end(low))


def bracket_edge(text, beside, unbound):
    # Pieces hold their low and not their high, so at one of the two brackets of
    # each side the edge is the make's next one.
    if text == "":
        return unbound
    make = read_bare_make(text)
    return next_make(make) if beside else make


def read_bracketed(word):
    if word[-1:] not in ("]", ")"):
        return None
    sides = word[1:-1].split(",")
    if len(sides) != 2 or None in [read_bare_make(side) for side in sides if side]:
        return None
    low = bracket_edge(sides[0], word[0] == "(", OLDEST)
    high = bracket_edge(sides[1], word[-1] == "]", None)
    return piece_span(low, high)


def read_term(word):
    if word == "*":
        return ALL
    if word == "none":
        return ()
    if word[:1] in ("[", "("):
        return read_bracketed(word)
    if word[:1].isdigit():
        return read_numbered(word)
    return read_signed(word)


def folded(spans, combine):
    # Neighbours are taken together, then neighbours of these: one behind the
    # other would walk a long text's growing span once for every word.
    while len(spans) > 1:
        halved = [combine(spans[k], spans[k + 1]) for k in range(0, len(spans) - 1, 2)]
        spans = halved + spans[2 * len(halved):]
    return spans[0]


def read_span(text):
    words = text.split(" ")
    alternatives = []
    terms = []
    for place, word in enumerate(words):
        if word == "|" and terms:
            alternatives.append(folded(terms, met))
            terms = []
        else:
            span = read_term(word)
            if span is None:
                raise NoSpan(place)
            terms.append(span)
    if not terms:
        raise NoSpan(len(words))
    alternatives.append(folded(terms, met))
    return folded(alternatives, joined)


def span_or_none(text):
    # For longer texts, in which a span that is none is refused otherwise.
    try:
        return read_span(text)
    except NoSpan:
        return None
