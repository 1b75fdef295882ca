"""Deeds as texts."""

from hueshade.errors import BadText
from hueshade.forms import FORMS


def thing_text(thing):
    """A number, a sort or a sift as a word."""
    return "-" if thing == "" else str(thing)


def words_text(things):
    """The things with one blank between."""
    return " ".join([thing_text(thing) for thing in things])


def row_text(deed):
    """The row of a deed, of a many its first row."""
    word, *things = deed
    if word == "many":
        return words_text([word, len(things[0])])
    if word == "unsure":
        return word + " " + " / ".join([words_text(choice) for choice in things[0]])
    return words_text(deed)


def deed_rows(deed):
    """All rows of a deed."""
    if deed[0] == "many":
        return [row_text(deed)] + [row_text(within) for within in deed[1]]
    return [row_text(deed)]


def deed_text(deed):
    """The deed's rows with line feeds between."""
    return "\n".join(deed_rows(deed))


def page_text(deeds):
    """The rows of all deeds, a line feed behind each."""
    return "".join([row + "\n" for deed in deeds for row in deed_rows(deed)])


def is_number(word):
    """Whether the word is a number of 1 to 9 figures without needless noughts."""
    figures = word.removeprefix("-")
    return figures.isdecimal() and len(figures) <= 9 and str(int(word)) == word


def read_numbers(words):
    """The tuple of the numbers, or None where some word is none."""
    if not all([is_number(word) for word in words]):
        return None
    return tuple([int(word) for word in words])


def read_choices(words):
    """The tuple of choices that are so written, or None."""
    choices = []
    for first in range(0, len(words) + 1, 6):
        if words[first + 5:first + 6] not in ([], ["/"]):
            return None
        choice = read_numbers(words[first:first + 5])
        if choice is None or len(choice) != 5:
            return None
        choices.append(choice)
    return tuple(choices)


def read_thing(letter, word):
    """The thing of this form that is so written, or None."""
    if letter == "n":
        return int(word) if is_number(word) else None
    if word == "":
        return None
    return "" if letter == "s" and word == "-" else word


def read_row(row):
    """The deed that is so written, or None; of a many ("many", how many deeds)."""
    word, *words = row.split(" ")
    if word == "unsure":
        choices = read_choices(words)
        return None if choices is None else (word, choices)
    form = "n" if word == "many" else FORMS.get(word)
    if form is None or len(words) != len(form):
        return None
    things = [read_thing(letter, thing) for letter, thing in zip(form, words)]
    if None in things or (word == "many" and things[0] < 0):
        return None
    return (word, *things)


def read_from(rows, first):
    """The deed whose first row is this one, and the number of the row behind it; BadText."""
    deed = read_row(rows[first])
    if deed is None:
        raise BadText(first)
    if deed[0] != "many":
        return (deed, first + 1)
    within = []
    end = first + 1 + deed[1]
    for number in range(first + 1, min(end, len(rows))):
        other = read_row(rows[number])
        if other is None or other[0] == "many":
            raise BadText(number)
        within.append(other)
    if end > len(rows):
        raise BadText(len(rows))
    return (("many", tuple(within)), end)


def read_deed(text):
    """The deed that is so written; BadText."""
    rows = text.split("\n")
    deed, end = read_from(rows, 0)
    if end < len(rows):
        raise BadText(end)
    return deed
