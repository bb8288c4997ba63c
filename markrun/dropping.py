"""Rows that do nothing of use, and programs without some of their rows."""

from markrun.flow import put, reached, ways_of
from markrun.items import is_label, rows_of, targets_of
from markrun.needs import needed_at, needs


# The rows that no way leads to.
def not_reached(items):
    there = dict([(number, True) for number in reached(items)])
    return [number for number in range(len(rows_of(items))) if number not in there]


# The jumps whose label stands just behind them, also where that is the end.
def to_the_next_row(items):
    return [number for number, target in enumerate(targets_of(items)) if target == number + 1]


def copied_to_itself(items):
    return [number for number, row in enumerate(rows_of(items)) if row[0] == "copy" and row[1] == row[2]]


# The rows that do nothing but put anew what is not needed behind them.
def not_needed(items):
    told = needs(items)
    ways = ways_of(items)
    puts = [put(row) for row in rows_of(items)]
    return [
        number for number in range(len(puts))
        if puts[number] != 0 and puts[number] & needed_at(told, ways[number]) == 0
    ]


# The four kinds of idle rows, in the order in which they are taken out.
IDLE_KINDS = (not_reached, to_the_next_row, copied_to_itself, not_needed)


def idle(items):
    numbers = []
    for told_by in IDLE_KINDS:
        numbers.extend(told_by(items))
    return sorted(set(numbers))


# The idle rows of the first kind of which there are any.
def idle_of_one_kind(items):
    for told_by in IDLE_KINDS:
        numbers = told_by(items)
        if numbers != []:
            return numbers
    return []


def without(items, numbers):
    dropped = dict([(number, True) for number in numbers])
    kept = []
    number = 0
    for item in items:
        if is_label(item):
            kept.append(item)
        else:
            if number not in dropped:
                kept.append(item)
            number += 1
    return kept
