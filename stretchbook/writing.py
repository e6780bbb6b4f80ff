"""Writing spans in the fewest words (points 14 and 15).

An alternative of plain terms is a range less single makes. Two alternatives that
meet are written as one, by >= and <, in no more words; and one that reaches into
a gap is cut at the piece's end, as the != that falls away pays for the bound that
comes. So some shortest text has one alternative for each of several runs of whole
pieces, and only where to part the runs is left to seek.
"""

from stretchbook.makes import OLDEST, next_make, shown_make
from stretchbook.reading import great_end, middle_end


def make_ahead(make):
    # The make of which this is the next one, if there is one.
    marks = make[3]
    if not marks or marks[-1] != 0:
        return None
    if len(marks) > 1:
        return (make[0], make[1], make[2], marks[:-1])
    return (make[0], make[1], make[2] - 1, ()) if make[2] > 0 else None


# An edge that is a next make may have more marks than every term takes, so where
# there is a make ahead of it, that one is written.
def low_term(low):
    ahead = make_ahead(low)
    return (">=", low) if ahead is None else (">", ahead)


def high_term(high):
    ahead = make_ahead(high)
    return ("<", high) if ahead is None else ("<=", ahead)


def range_terms(low, high):
    # N and N.N are left out: ^, ~ or < say each of them in one word, too.
    if high is None:
        return [] if low == OLDEST else [low_term(low)]
    if low == OLDEST:
        return [high_term(high)]
    if high == next_make(low):
        return [("=", low)]
    if high == great_end(low):
        return [("^", low)]
    if high == middle_end(low):
        return [("~", low)]
    return [low_term(low), high_term(high)]


def is_hole_behind(span, place):
    # To part a range at a gap adds two words at most, a high for the one half and
    # a low for the other (^ and ~ end alike for every low within them). So a gap
    # of two makes or more is never worth its != terms, a gap of one make may be.
    return place + 1 < len(span) and next_make(span[place][1]) == span[place + 1][0]


def run_words(span, start, last):
    return max(1, len(range_terms(span[start][0], span[last][1])) + last - start)


def run_lasts(span, start, furthest, places):
    # A run takes a word for each of its pieces, and one more if its range takes
    # two words. The furthest run takes no more than that, so besides it only runs
    # with a range of one word are worth a try.
    low = span[start][0]
    highs = [high for high in (next_make(low), great_end(low), middle_end(low)) if high in places]
    return [furthest] + [places[high] for high in highs if places[high] < furthest]


def best_runs(span):
    # For each piece the fewest words for all pieces from it on, and the place of
    # the last piece of the run that then begins with it.
    places = dict([(piece[1], place) for place, piece in enumerate(span)])
    runs = [(0, len(span))] * (len(span) + 1)
    furthest = len(span) - 1
    for start in range(len(span) - 1, -1, -1):
        if not is_hole_behind(span, start):
            furthest = start
        lasts = run_lasts(span, start, furthest, places)
        runs[start] = min([(run_words(span, start, last) + runs[last + 1][0], last) for last in lasts])
    return runs


def prices(span):
    return [run[0] for run in best_runs(span)[:-1]] + [1]


def price(span):
    return prices(span)[0]


def run_text(pieces):
    terms = range_terms(pieces[0][0], pieces[-1][1])
    terms.extend([("!=", high) for low, high in pieces[:-1]])
    return " ".join([sign + shown_make(make, ()) for sign, make in terms]) if terms else "*"


def written(span):
    runs = best_runs(span)
    alternatives = []
    start = 0
    while start < len(span):
        behind = runs[start][1] + 1
        alternatives.append(run_text(span[start:behind]))
        start = behind
    return " | ".join(alternatives) if alternatives else "none"


def words_in(text):
    return len([word for word in text.split(" ") if word != "|"])
