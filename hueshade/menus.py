"""Rows of numbers, one below each of some counts, in their order.

The rows of the counts of choices of open lamps are the settings.
"""

from hueshade.errors import BadSetting, TooMany

MOST_SETTINGS = 200


def how_many(counts):
    """How many rows there are; of no counts there is the empty one."""
    many = 1
    for count in counts:
        many *= count
    return many


def all_rows(counts, *, most=MOST_SETTINGS):
    """The list of all rows in order; TooMany where there are more than most."""
    if how_many(counts) > most:
        raise TooMany()
    rows = [()]
    for count in counts:
        rows = [(*row, number) for row in rows for number in range(count)]
    return rows


def row_number(counts, row):
    """The place of the row among all, from 0 on; BadSetting where it is none of them."""
    if len(row) != len(counts):
        raise BadSetting()
    place = 0
    for count, number in zip(counts, row):
        if number < 0 or number >= count:
            raise BadSetting()
        place = place * count + number
    return place


def row_at(counts, number):
    """The row at a place, from 0 on; BadSetting where there is no such place."""
    if number < 0 or number >= how_many(counts):
        raise BadSetting()
    rest = number
    backward = []
    for count in reversed(counts):
        rest, last = divmod(rest, count)
        backward.append(last)
    return tuple(reversed(backward))
