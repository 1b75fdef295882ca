"""Pages: a house as the text of the deeds that stand."""

from hueshade.errors import BadText, Crowded, Missing, ShadeError
from hueshade.house import House
from hueshade.texts import page_text, read_from


def page(house):
    """The rows of each deed that stands, the eldest first, a line feed behind each."""
    return page_text(house.deeds())


def read_page(text):
    """The house in which the deeds of the page were done; BadText."""
    *rows, rest = text.split("\n")
    house = House()
    first = 0
    while first < len(rows):
        deed, end = read_from(rows, first)
        try:
            house.do(deed)
        except (ShadeError, Missing, Crowded):
            raise BadText(first) from None
        first = end
    # Behind the last line feed nothing is left but a row that lacks its own.
    if rest != "":
        raise BadText(len(rows))
    return house
