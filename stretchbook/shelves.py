"""Shelves: their form, how they are written, and what stands on them (points 16 to 18)."""

from stretchbook.errors import NoShelf
from stretchbook.makes import newest_first, read_bare_make, shown_make
from stretchbook.reading import span_or_none
from stretchbook.words import is_name
from stretchbook.writing import written

MOST_ENTRIES = 40
MOST_NEEDS = 40


def is_entry(entry):
    names = [entry[0]] + [need[0] for need in entry[2]]
    if len(entry[2]) > MOST_NEEDS or len(set(names)) != len(names):
        return False
    return all([is_name(name) for name in names])


def is_shelf(thing):
    parts = [entry[:2] for entry in thing]
    if len(parts) > MOST_ENTRIES or len(set(parts)) != len(parts):
        return False
    return all([is_entry(entry) for entry in thing])


def shown_shelf(shelf):
    lines = []
    for name, make, needs in shelf:
        lines.append(f"part {name} " + shown_make(make, ()))
        lines.extend([f"need {needed} " + written(span) for needed, span in needs])
    return lines


def read_part(line):
    words = line.split(" ")
    if len(words) != 3 or words[0] != "part" or not is_name(words[1]):
        return None
    make = read_bare_make(words[2])
    return None if make is None else (words[1], make, ())


def read_named_span(text):
    halves = text.partition(" ")
    span = span_or_none(halves[2]) if is_name(halves[0]) else None
    return None if span is None else (halves[0], span)


def read_need(line):
    halves = line.partition(" ")
    return read_named_span(halves[2]) if halves[0] == "need" else None


def with_part(entries, part):
    parts = [entry[:2] for entry in entries]
    if len(parts) == MOST_ENTRIES or part[:2] in parts:
        return None
    return entries + [part]


def with_need(entries, need):
    if not entries:
        return None
    above = entries[-1]
    entry = (above[0], above[1], above[2] + (need,))
    return entries[:-1] + [entry] if is_entry(entry) else None


def with_line(entries, line):
    part = read_part(line)
    if part is not None:
        return with_part(entries, part)
    need = read_need(line)
    return None if need is None else with_need(entries, need)


def read_shelf(lines):
    entries = []
    for place, line in enumerate(lines):
        entries = with_line(entries, line)
        if entries is None:
            raise NoShelf(place)
    return tuple(entries)


def makes_of(shelf, name):
    return newest_first([entry[1] for entry in shelf if entry[0] == name])


def needs_of(shelf, name, make):
    for entry in shelf:
        if entry[:2] == (name, make):
            return entry[2]
    return ()
