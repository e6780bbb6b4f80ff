"""Spans: which makes lie in them, and what two of them hold together (points 9 to 11)."""

from stretchbook.makes import is_older, rank

ALL = (((0, 0, 0, (0,)), None),)


def edges_of(span):
    # An end that is None is no edge: the span never turns there.
    edges = []
    for low, high in span:
        edges.append(low)
        if high is not None:
            edges.append(high)
    return edges


def is_span(thing):
    if None in [piece[1] for piece in thing[:-1]]:
        return False
    edges = edges_of(thing)
    return all([is_older(edges[k], edges[k + 1]) for k in range(len(edges) - 1)])


def lies_in(make, span):
    # Only the last piece whose low is not newer can hold the make; books ask so
    # often that it is sought by halves.
    first = 0
    behind = len(span)
    while first < behind:
        middle = (first + behind) // 2
        if is_older(make, span[middle][0]):
            behind = middle
        else:
            first = middle + 1
    if first == 0:
        return False
    high = span[first - 1][1]
    return high is None or is_older(make, high)


def piece_span(low, high):
    # A high that is not newer leaves no make between, and no piece.
    if high is None or is_older(low, high):
        return ((low, high),)
    return ()


def span_of(edges):
    ends = edges + [None]
    return tuple([(edges[k], ends[k + 1]) for k in range(0, len(edges), 2)])


def turns_of(one, other):
    # For each edge of either span: whether the one, and whether the other, turns there.
    turns = {}
    for edge in edges_of(one):
        turns[edge] = (True, False)
    for edge in edges_of(other):
        turns[edge] = (edge in turns, True)
    return turns


def combined(one, other, keep):
    # Between two edges side by side nothing turns, so one walk over all edges
    # tells everything; a piece begins or ends only where keep's answer turns,
    # so no two pieces of what is told touch.
    turns = turns_of(one, other)
    in_one = False
    in_other = False
    kept = False
    edges = []
    for edge in sorted(turns, key=rank):
        in_one = in_one != turns[edge][0]
        in_other = in_other != turns[edge][1]
        if keep(in_one, in_other) != kept:
            kept = not kept
            edges.append(edge)
    return span_of(edges)


def met(one, other):
    return combined(one, other, lambda first, second: first and second)


def joined(one, other):
    return combined(one, other, lambda first, second: first or second)


def less(one, other):
    return combined(one, other, lambda first, second: first and not second)


def parting(one, other):
    apart = combined(one, other, lambda first, second: first != second)
    return apart[0][0] if apart else None
