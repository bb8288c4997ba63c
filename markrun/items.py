"""Items and programs: what is one, its rows, and where its labels and jumps lead."""

from markrun.bits import is_number
from markrun.errors import NoLabel
from markrun.kinds import FIELDS, JUMPS, LETTERS, MARKS, NAME_LONGEST, NUMBER_WIDTHS, PLACES


def is_item(thing):
    if not isinstance(thing, tuple) or len(thing) == 0:
        return False
    kind = thing[0]
    # A list can't be looked up, so the kind has to be known for a text first.
    if not isinstance(kind, str) or kind not in FIELDS:
        return False
    fields = FIELDS[kind]
    if len(thing) != len(fields) + 1:
        return False
    return all([fits(kind, field, held) for field, held in zip(fields, thing[1:])])


# Whether a thing may stand in a field of an item of that kind.
def fits(kind, field, thing):
    if field == "name":
        return is_name(thing)
    if field == "mark":
        return thing in MARKS
    width = NUMBER_WIDTHS[kind] if field == "n" else PLACES[field][1]
    return is_number(thing, width)


def is_name(thing):
    if not isinstance(thing, str):
        return False
    if len(thing) < 1 or len(thing) > NAME_LONGEST:
        return False
    return all([sign in LETTERS for sign in thing])


def is_program(thing):
    if not isinstance(thing, list) or not all([is_item(held) for held in thing]):
        return False
    names = [item[1] for item in thing if is_label(item)]
    if len(set(names)) != len(names):
        return False
    places = label_places(thing)
    return all([item[-1] in places for item in thing if is_jump(item)])


def is_label(item):
    return item[0] == "label"


def is_jump(item):
    return item[0] in JUMPS


def rows_of(items):
    return [item for item in items if not is_label(item)]


def place_of(items, name):
    places = label_places(items)
    if name not in places:
        raise NoLabel(f"no label is called {name!r}")
    return places[name]


# The place of each label by its name.
def label_places(items):
    places = {}
    place = 0
    for item in items:
        if is_label(item):
            places[item[1]] = place
        else:
            place += 1
    return places


# The place to which each row leads; None of a row that is no jump.
def targets_of(items):
    places = label_places(items)
    return [places[row[-1]] if is_jump(row) else None for row in rows_of(items)]
