"""Jumps to rows that only lead on."""

from markrun.items import is_jump, label_places, rows_of


def led_on(items):
    rows = rows_of(items)
    places = label_places(items)
    return [item[:-1] + (last_name(item[-1], rows, places),) if is_jump(item) else item for item in items]


# The name at which one ends, going from a name over rows `jump` alone; the
# name itself where that goes round in a circle.
def last_name(name, rows, places):
    met = {}
    last = name
    while leads_on(rows, places[last]):
        if places[last] in met:
            return name
        met[places[last]] = True
        last = rows[places[last]][-1]
    return last


def leads_on(rows, place):
    return place < len(rows) and rows[place][0] == "jump"
