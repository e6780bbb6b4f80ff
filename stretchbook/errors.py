"""The refusals of the program, each straight under one base (point 3)."""


# The base lets an asker take every refusal at once, or as a ValueError.
class SpanError(ValueError):
    pass


class NoSpan(SpanError):
    def __init__(self, place):
        SpanError.__init__(self, f"no span, from word {place} on")
        self.place = place


class NoShelf(SpanError):
    def __init__(self, place):
        SpanError.__init__(self, f"no shelf, from line {place} on")
        self.place = place


class Stuck(SpanError):
    def __init__(self, paper):
        SpanError.__init__(self, "no book is sound for these wants")
        self.paper = paper


class NoName(SpanError):
    pass


class NoLine(SpanError):
    pass
