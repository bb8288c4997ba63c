"""Plain programs: labels where jumps lead, and nowhere else, named in their order."""

from markrun.items import is_jump, rows_of, targets_of
from markrun.kinds import LETTERS


def name_of(number):
    name = ""
    # There is no letter for nought: behind z comes aa, not ba.
    left = number + 1
    while left > 0:
        name = LETTERS[(left - 1) % len(LETTERS)] + name
        left = (left - 1) // len(LETTERS)
    return name


def plain(items):
    rows = [row[:-1] if is_jump(row) else row for row in rows_of(items)]
    return labelled(rows, targets_of(items))


# The plain program of rows in which jumps stand without their names, and of
# the place to which each row leads, None of a row that is no jump.
def labelled(rows, targets):
    names = names_of_places(targets)
    items = []
    for number, row in enumerate(rows):
        if number in names:
            items.append(("label", names[number]))
        items.append(row if targets[number] is None else row + (names[targets[number]],))
    if len(rows) in names:
        items.append(("label", names[len(rows)]))
    return items


def names_of_places(targets):
    places = sorted(set([target for target in targets if target is not None]))
    return dict([(place, name_of(number)) for number, place in enumerate(places)])
