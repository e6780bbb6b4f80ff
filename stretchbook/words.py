"""Names and numbers, the words of which makes are written (point 5)."""

LETTERS = "abcdefghijklmnopqrstuvwxyz"
FIGURES = "0123456789"
MOST_LETTERS = 8
MOST_FIGURES = 15


def is_name(text):
    return 1 <= len(text) <= MOST_LETTERS and all([sign in LETTERS for sign in text])


def is_number(thing):
    # Python counts a truth as an int; here it is no whole number.
    if isinstance(thing, bool) or not isinstance(thing, int):
        return False
    return 0 <= thing < 10 ** 15


def number_of(text):
    # The length is asked first, as int() takes no text of thousands of figures.
    if not 1 <= len(text) <= MOST_FIGURES:
        return None
    if not all([sign in FIGURES for sign in text]):
        return None
    if text[0] == "0" and text != "0":
        return None
    return int(text)
