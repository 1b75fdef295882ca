"""Deeds as texts, read plainly: one pattern for each row."""

import re

NUMBER = r"(?:0|-?[1-9][0-9]{0,8})"
WORD = r"[^ \n]+"
CHOICE = " ".join([NUMBER] * 5)
ROWS = {
    "lamp": " ".join([NUMBER] * 5),
    "unsure": f"{CHOICE}(?: / {CHOICE})*",
    "post": " ".join([NUMBER] * 4),
    "pane": " ".join([NUMBER] * 4) + f" {WORD}",
    "move": f"{WORD} {NUMBER} {NUMBER} {NUMBER}",
    "switch": NUMBER,
    "drop": f"{WORD} {NUMBER}",
    "look": " ".join([NUMBER] * 5),
    "strike": NUMBER,
    "settle": f"{NUMBER} {NUMBER}",
}
MANY = r"many (0|[1-9][0-9]{0,8})"


class Spoilt(Exception):
    """The number of the row that isn't so written."""

    def __init__(self, row):
        super().__init__(row)
        self.row = row


def plain_row(row):
    """The deed of a row that is no many, or None."""
    word, blank, rest = row.partition(" ")
    if word not in ROWS or not blank or not re.fullmatch(ROWS[word], rest):
        return None
    if word == "unsure":
        return (word, tuple(tuple(map(int, choice.split())) for choice in rest.split(" / ")))
    if word == "pane":
        *numbers, sift = rest.split(" ")
        return (word, *map(int, numbers), "" if sift == "-" else sift)
    if word in ("move", "drop"):
        sort, *numbers = rest.split(" ")
        return (word, sort, *map(int, numbers))
    return (word, *map(int, rest.split(" ")))


def plain_deeds(rows):
    """Pairs (first row, deed) one behind the other; Spoilt where a row isn't so written or rows lack."""
    at = 0
    while at < len(rows):
        many = re.fullmatch(MANY, rows[at])
        if not many:
            deed = plain_row(rows[at])
            if deed is None:
                raise Spoilt(at)
            yield at, deed
            at += 1
            continue
        first, within = at, []
        for number in range(first + 1, first + 1 + min(int(many[1]), 9999)):
            if number == len(rows):
                raise Spoilt(number)
            within.append(plain_row(rows[number]))
            if within[-1] is None:
                raise Spoilt(number)
        yield first, ("many", tuple(within))
        at = first + 1 + len(within)


def plain_read(text):
    """The deed of a text; Spoilt."""
    rows = text.split("\n")
    told = plain_deeds(rows)
    first, deed = next(told)
    length = 1 + (len(deed[1]) if deed[0] == "many" else 0)
    if length < len(rows):
        raise Spoilt(length)
    return deed


def spoil(chance, text):
    """The text with one sign, word or row put in, taken out, doubled or exchanged."""
    unit = chance.choice(("", " ", "\n"))
    parts = list(text) if unit == "" else text.split(unit)
    at = chance.randrange(len(parts)) if parts else 0
    new = {
        "": chance.choice(list(" /-0123459lampr\n~!")), " ": chance.choice(("", "0", "-0", "01", "/", "many", "r", "-", "+1",
            "1234567890", "-1234567890", "123456789", "1_0", "lamp", "1.0")),
        "\n": chance.choice(("", "lamp 0 0 1 1 1", "many 0", "many 1", "many 2", "undo", "switch 1", "strike 99")),
    }[unit]
    way = chance.randrange(5)
    if way == 0 or not parts:
        parts.insert(at, new)
    elif way == 1:
        del parts[at]
    elif way == 2:
        parts.insert(at, parts[at])
    elif way == 3:
        other = chance.randrange(len(parts))
        parts[at], parts[other] = parts[other], parts[at]
    else:
        parts[at] = new
    return unit.join(parts)
