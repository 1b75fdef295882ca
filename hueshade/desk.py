"""A desk: a house that answers lines."""

from hueshade.errors import Crowded, Missing, ShadeError
from hueshade.house import House
from hueshade.texts import read_numbers, read_row, row_text, words_text

NO_FORM = "what"


def say_undo(house):
    """The first row of the deed that is undone."""
    return row_text(house.undo())


def say_redo(house):
    """The first row of the deed that is done again."""
    return row_text(house.redo())


def say_fits(house):
    """How many settings fit."""
    return words_text([len(house.fits())])


def say_clash(house):
    """The numbers of looks that clash."""
    return words_text(house.clash() or [])


def say_things(house):
    """How many lamps, posts and panes stand."""
    return words_text([len(house.lamps()), len(house.posts()), len(house.panes())])


def say_light(house, across, up):
    """The light at a place."""
    return words_text(house.light(across, up))


def say_why(house, across, up):
    """The reasons of a place: of each lamp its number and the things that meet its way."""
    return "; ".join([
        f"{number}:" + "".join([f" {words_text(thing)}" for thing in things])
        for number, light, things in house.reasons(across, up)
    ])


QUESTIONS = {
    "undo": say_undo,
    "redo": say_redo,
    "fits": say_fits,
    "clash": say_clash,
    "things": say_things,
}
PLACE_QUESTIONS = {"light": say_light, "why": say_why}


def say_deed(house, line):
    """The number that the deed of a row tells, or done."""
    deed = read_row(line)
    if deed is None or deed[0] == "many":
        return NO_FORM
    told = house.do(deed)
    return "done" if told is None else words_text([told])


def answer(house, line):
    """What a house answers to a line; refused as what is asked or done."""
    word, *words = line.split(" ")
    if line in QUESTIONS:
        ask = QUESTIONS[line]
        return ask(house) or "none"
    if word in PLACE_QUESTIONS:
        place = read_numbers(words)
        if place is None or len(place) != 2:
            return NO_FORM
        ask_of_place = PLACE_QUESTIONS[word]
        return ask_of_place(house, *place) or "none"
    return say_deed(house, line)


class Desk:
    """Answers lines for one house, which others may hold too."""

    def __init__(self, house=None):
        self.held = House() if house is None else house
        self.lines = []

    def house(self):
        """The very house that the desk has."""
        return self.held

    def say(self, line):
        """The answer to a line."""
        self.lines.append(line)
        try:
            return answer(self.held, line)
        except (ShadeError, Missing, Crowded) as refusal:
            return f"no {refusal.word}"

    def __len__(self):
        return len(self.lines)
