"""The forms of deeds: for each first text, what stands behind it.

A letter for each thing: n a number, w a sort, s a sift, c choices, d deeds.
"""

FORMS = {
    "lamp": "nnnnn",
    "unsure": "c",
    "post": "nnnn",
    "pane": "nnnns",
    "move": "wnnn",
    "switch": "n",
    "drop": "wn",
    "look": "nnnnn",
    "strike": "n",
    "settle": "nn",
    "many": "d",
}
