"""Which registers and marks are still needed ahead of each row."""

from markrun.flow import ALL_NEEDED, put, used, ways_of
from markrun.items import rows_of


def needs(items):
    rows = rows_of(items)
    ways = ways_of(items)
    comers = comers_of(ways)
    told = [0] * len(rows) + [ALL_NEEDED]
    # It grows from nothing by what is asked alone, so it ends as the least list.
    due = list(range(len(rows)))
    while due != []:
        number = due.pop()
        need = used(rows[number]) | (needed_at(told, ways[number]) & ~put(rows[number]))
        if need != told[number]:
            told[number] = need
            due.extend(comers[number])
    return told


# What is needed ahead of any of these places.
def needed_at(told, places):
    need = 0
    for place in places:
        need = need | told[place]
    return need


# The rows behind which each place, the end too, may be due.
def comers_of(ways):
    comers = [[] for place in range(len(ways) + 1)]
    for number, places in enumerate(ways):
        for place in places:
            comers[place].append(number)
    return comers
