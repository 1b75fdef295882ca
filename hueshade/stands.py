"""How many things and looks may stand, and the sorts of things."""

MOST_THINGS = 12
MOST_LOOKS = 24
SORTS = ("lamp", "post", "pane")
