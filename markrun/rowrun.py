"""The machine over a program's rows."""

from markrun.items import rows_of, targets_of
from markrun.machine import Machine


class RowMachine(Machine):
    def __init__(self, items, registers=None, memory=None):
        table = table_of_rows(items)
        Machine.__init__(self, table, len(table), registers, memory)


# What Machine asks for; the place of a row is its number.
def table_of_rows(items):
    rows = rows_of(items)
    table = {}
    for number, target in enumerate(targets_of(items)):
        table[number] = (rows[number], number + 1, target)
    return table
