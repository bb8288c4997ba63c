"""Idle rows, told by the words of the document."""

from markrun.flow import next_rows, put, reached
from markrun.items import place_of, rows_of
from markrun.needs import needs

JUMPS = ("jump", "when", "unless")


def idle_kinds(items):
    """The numbers of the idle rows of each of the four kinds, told as the document tells them."""
    rows, there, need = rows_of(items), reached(items), needs(items)
    kinds = ([], [], [], [])
    for number, row in enumerate(rows):
        if number not in there:
            kinds[0].append(number)
        if row[0] in JUMPS and place_of(items, row[-1]) == number + 1:
            kinds[1].append(number)
        if row[0] == "copy" and row[1] == row[2]:
            kinds[2].append(number)
        behind = 0
        for other in next_rows(items, number):
            behind |= need[other]
        if row[0] not in JUMPS + ("stop", "store", "storew") and not put(row) & behind:
            kinds[3].append(number)
    return kinds
