"""The desk: it is told lines, and answers each with a text (point 28)."""

from stretchbook.errors import NoLine
from stretchbook.lock import Lock
from stretchbook.makes import read_bare_make, shown_make
from stretchbook.reading import span_or_none
from stretchbook.shelves import read_named_span, read_need, read_part, read_shelf
from stretchbook.spans import lies_in, parting
from stretchbook.words import is_name
from stretchbook.writing import price, written


def read_spans(texts):
    spans = [span_or_none(text) for text in texts]
    return None if None in spans else tuple(spans)


def read_make_and_span(text):
    halves = text.partition(" ")
    make = read_bare_make(halves[0])
    span = span_or_none(halves[2])
    return None if make is None or span is None else (make, span)


def read_two_spans(text):
    sides = text.split(" / ")
    return read_spans(sides) if len(sides) == 2 else None


def read_line(line):
    # What the line tells behind its first word, or None where it is no line.
    halves = line.partition(" ")
    word = halves[0]
    text = halves[2]
    if line in ("shelf", "lift", "book"):
        return ()
    if word == "part":
        return read_part(line)
    if word == "need":
        return read_need(line)
    if word == "want":
        return read_named_span(text)
    if word in ("drop", "newest"):
        return (text,) if is_name(text) else None
    if word == "lies":
        return read_make_and_span(text)
    if word in ("words", "write"):
        return read_spans([text])
    if word == "parts":
        return read_two_spans(text)
    return None


def shown_book(book):
    return ", ".join([name + " " + shown_make(make, ()) for name, make in book]) if book else "-"


def shown_why(why):
    need = why[1]
    return " ".join([shown_make(why[0], ()), need[0] if need[0] else "-", need[1]])


def shown_newest(told):
    return ", ".join([shown_make(told[0], ())] + [shown_why(why) for why in told[1]])


def shown_parting(one, other):
    make = parting(one, other)
    return "-" if make is None else shown_make(make, ())


def answer_of_spans(word, told):
    # The answers for which neither lock nor kept lines are asked.
    if word == "lies":
        return "yes" if lies_in(told[0], told[1]) else "no"
    if word == "words":
        return str(price(told[0]))
    if word == "write":
        return written(told[0])
    return shown_parting(told[0], told[1])


class Desk:
    def __init__(self):
        self.lock = Lock(())
        self.kept = []

    def say(self, line):
        # The line is read whole ahead of all that is done, as NoLine goes first.
        told = read_line(line)
        if told is None:
            raise NoLine(f"no line: {line}")
        word = line.partition(" ")[0]
        if word in ("lies", "words", "write", "parts"):
            return answer_of_spans(word, told)
        if word in ("part", "need", "shelf"):
            return self.answer_of_shelf(word, line)
        return self.answer_of_lock(word, told)

    def answer_of_shelf(self, word, line):
        if word == "shelf":
            lines = self.kept
            # They go ahead of the reading, as they go where it refuses them, too.
            self.kept = []
            self.lock = Lock(read_shelf(lines))
        else:
            self.kept.append(line)
        return "ok"

    def answer_of_lock(self, word, told):
        if word == "newest":
            return shown_newest(self.lock.newest(told[0]))
        if word == "want":
            self.lock.want(told[0], told[1])
        if word == "drop":
            self.lock.drop(told[0])
        if word == "lift":
            self.lock.lift()
        return shown_book(self.lock.book())
