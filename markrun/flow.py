"""What rows look at and put anew, and which rows may be due behind which."""

from markrun.items import rows_of, targets_of
from markrun.kinds import MARKS

# A need has a bit for each register, from 0 on, then one for each mark.
MARK_LOW = 8
ALL_NEEDED = 2047

LOOK_AT_D = (
    "high", "left", "right", "add", "addc", "sub", "subc", "and", "or", "xor", "test", "store", "storew",
)
LOOK_AT_S = (
    "copy", "load", "loadw", "add", "addc", "sub", "subc", "and", "or", "xor", "test", "store", "storew",
)
LOOK_AT_CARRY = ("addc", "subc")

PUT_D = (
    "set", "high", "copy", "load", "loadw", "add", "addc", "sub", "subc", "and", "or", "xor", "left", "right",
)
PUT_NOUGHT_AND_SIGN = ("add", "addc", "sub", "subc", "test", "and", "or", "xor", "left", "right")
PUT_CARRY = ("add", "addc", "sub", "subc", "test", "left", "right")


def used(row):
    if row[0] == "stop":
        return ALL_NEEDED
    if row[0] == "when" or row[0] == "unless":
        return mark_bit(row[1])
    need = 0
    if row[0] in LOOK_AT_D:
        need = need | (1 << row[1])
    if row[0] in LOOK_AT_S:
        need = need | (1 << row[2])
    if row[0] in LOOK_AT_CARRY:
        need = need | mark_bit("carry")
    return need


def put(row):
    need = 0
    if row[0] in PUT_D:
        need = need | (1 << row[1])
    if row[0] in PUT_NOUGHT_AND_SIGN:
        need = need | mark_bit("nought") | mark_bit("sign")
    if row[0] in PUT_CARRY and not moves_by_nought(row):
        need = need | mark_bit("carry")
    return need


def mark_bit(mark):
    return 1 << (MARK_LOW + MARKS.index(mark))


# Such a row lets no bit fall out, and so leaves carry.
def moves_by_nought(row):
    return (row[0] == "left" or row[0] == "right") and row[2] == 0


def next_rows(items, number):
    return ways_of(items)[number]


# What next_rows tells of each row.
def ways_of(items):
    rows = rows_of(items)
    return [ways_from(rows[number], number, target) for number, target in enumerate(targets_of(items))]


def ways_from(row, number, target):
    if row[0] == "stop":
        return []
    if row[0] == "jump":
        return [target]
    if target is None:
        return [number + 1]
    return sorted(set([number + 1, target]))


def reached(items):
    ways = ways_of(items)
    found = {}
    due = [0]
    while due != []:
        number = due.pop()
        # The end is come to, too, but is no row.
        if number < len(ways) and number not in found:
            found[number] = True
            due.extend(ways[number])
    return sorted(found)
