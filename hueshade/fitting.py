"""Settings: which there are, which fit the looks, and looks that clash.

Looks are a dict of tuples (place, light, floor) by their numbers, rising. The lamps of a look's floor
all stand, with as many choices as they have now, so that a setting speaks of them too.
"""

from hueshade.beams import choice_lights, picked_light
from hueshade.errors import Unknown
from hueshade.menus import all_rows, row_number


def counts_of(lamps):
    """How many choices each lamp that is open has, by their numbers."""
    return [len(choices) for choices, on in lamps.values() if len(choices) > 1]


def settings_of(lamps):
    """All settings of the lamps, in order."""
    return all_rows(counts_of(lamps))


def checked_setting(lamps, setting):
    """The setting, or () for None; Unknown, BadSetting."""
    counts = counts_of(lamps)
    if setting is None:
        if counts:
            raise Unknown()
        return ()
    row_number(counts, setting)
    return setting


def picks_of(lamps, setting):
    """The place of the true one in the choices of each lamp, by its number."""
    picks = {}
    used = 0
    for number, (choices, on) in lamps.items():
        if len(choices) > 1:
            picks[number] = setting[used]
            used += 1
        else:
            picks[number] = 0
    return picks


def true_lamps(lamps, setting):
    """The tuples (number, choice) of the lamps that are on, with their true choices."""
    picks = picks_of(lamps, setting)
    return [(number, choices[picks[number]]) for number, (choices, on) in lamps.items() if on]


def setting_lights(lamps, settings, floor, point):
    """The light at the point of the floor under each of the settings of the lamps."""
    table = choice_lights(floor, point)
    return [picked_light(table, picks_of(lamps, setting)) for setting in settings]


def look_answers(lamps, looks):
    """For each look, by its number, whether it tells the light of each setting that there is."""
    settings = settings_of(lamps)
    answers = {}
    for number, (place, seen_light, floor) in looks.items():
        answers[number] = [light == seen_light for light in setting_lights(lamps, settings, floor, place)]
    return answers


def all_meet(rows, count):
    """For each of so many settings, whether all rows of answers have True for it."""
    return [all([row[at] for row in rows]) for at in range(count)]


def fitting(lamps, looks):
    """The settings that fit, in order."""
    settings = settings_of(lamps)
    good = all_meet(list(look_answers(lamps, looks).values()), len(settings))
    return [setting for setting, fits in zip(settings, good) if fits]


def clashing(lamps, looks):
    """The numbers of looks that clash, or None where some setting fits."""
    count = len(settings_of(lamps))
    answers = look_answers(lamps, looks)
    if any(all_meet(list(answers.values()), count)):
        return None
    kept = list(answers)
    for number in answers:
        # A look that isn't needed now is not needed later either, when there are fewer of them.
        rest = [other for other in kept if other != number]
        if not any(all_meet([answers[other] for other in rest], count)):
            kept = rest
    return kept
