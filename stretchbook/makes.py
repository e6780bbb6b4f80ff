"""Makes: their form, their order, and how they are written (points 5 to 8)."""

from stretchbook.words import is_name, is_number, number_of

OLDEST = (0, 0, 0, (0,))
MOST_MARKS = 12
MOST_NOTES = 4


def is_mark(thing):
    if isinstance(thing, str):
        return is_name(thing)
    return is_number(thing)


def is_make(thing):
    marks = thing[3]
    if len(marks) > MOST_MARKS:
        return False
    return all([is_number(part) for part in thing[:3]]) and all([is_mark(mark) for mark in marks])


def mark_rank(mark):
    # Python compares no number with a name, so each has a place for both.
    if isinstance(mark, str):
        return (1, 0, mark)
    return (0, mark, "")


def rank(make):
    # Python sorts these tuples as point 6 sorts makes; the fourth thing puts
    # forerunners ahead, which the marks alone would not.
    marks = make[3]
    without_marks = 0 if marks else 1
    return (make[0], make[1], make[2], without_marks, tuple([mark_rank(mark) for mark in marks]))


def is_older(one, other):
    return rank(one) < rank(other)


def next_make(make):
    marks = make[3]
    if marks:
        return (make[0], make[1], make[2], marks + (0,))
    return (make[0], make[1], make[2] + 1, (0,))


def newest_first(makes):
    return sorted(makes, key=rank, reverse=True)


def shown_make(make, notes):
    text = ".".join([str(part) for part in make[:3]])
    if make[3]:
        text += "-" + ".".join([str(mark) for mark in make[3]])
    if notes:
        text += "+" + ".".join(notes)
    return text


def read_numbers(text):
    numbers = [number_of(word) for word in text.split(".")]
    if len(numbers) != 3 or None in numbers:
        return None
    return tuple(numbers)


def read_mark(text):
    return text if is_name(text) else number_of(text)


def read_marks(text):
    marks = [read_mark(word) for word in text.split(".")]
    if len(marks) > MOST_MARKS or None in marks:
        return None
    return tuple(marks)


def read_notes(text):
    notes = text.split(".")
    if len(notes) > MOST_NOTES or not all([is_name(note) for note in notes]):
        return None
    return tuple(notes)


def read_make(text):
    # The + is sought first: neither it nor the - can stand in a number or a
    # name, so a sign too many ends in a word that is refused.
    halves = text.partition("+")
    ahead = halves[0].partition("-")
    numbers = read_numbers(ahead[0])
    marks = read_marks(ahead[2]) if ahead[1] else ()
    notes = read_notes(halves[2]) if halves[1] else ()
    if numbers is None or marks is None or notes is None:
        return None
    return (numbers + (marks,), notes)


def read_bare_make(text):
    # Where a make stands in a longer text, it stands without notes.
    found = read_make(text)
    if found is None or found[1]:
        return None
    return found[0]
