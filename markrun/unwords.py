"""Words read back to rows and programs."""

from markrun.bits import WORD_BITS, signed
from markrun.errors import BadWords
from markrun.fields import code_in, is_far_code, is_near_code, number_at, row_in
from markrun.kinds import PLACES
from markrun.plainly import labelled


def row_at(words, address):
    told = told_at(words, address)
    if told is None:
        # The address stays unsaid: Python refuses to write out a very long number.
        raise BadWords("no row stands at that address")
    return told


# What row_at tells; None where it refuses.
def told_at(words, address):
    # Python would take an address below nought as one from the end.
    if address < 0 or address >= len(words):
        return None
    row = row_in(words[address])
    if row is None:
        return None
    code = code_in(words[address])
    if is_far_code(code):
        return far_at(words, address, row)
    if is_near_code(code):
        place = PLACES["distance"]
        return (row, address + 1, address + signed(number_at(words[address], place), place[1]))
    return (row, address + 1, None)


def far_at(words, address, row):
    if address + 1 >= len(words):
        return None
    return (row, address + 2, address + signed(words[address + 1], WORD_BITS))


def read_words(words):
    table = table_of(words)
    numbers = {len(words): len(table)}
    for number, address in enumerate(table):
        numbers[address] = number
    rows = [told[0] for told in table.values()]
    targets = [None if told[2] is None else numbers[told[2]] for told in table.values()]
    return labelled(rows, targets)


def word_fault(words):
    table = walked(words)
    end = behind(table)
    if end != len(words):
        return end
    for address, told in table.items():
        target = told[2]
        if target is not None and target != end and target not in table:
            return address
    return None


# What stands at the address of each row of words that can be read.
def table_of(words):
    wrong = word_fault(words)
    if wrong is not None:
        raise BadWords(f"what stands at {wrong} can't be read")
    return walked(words)


# What stands at each address, from 0 from each row to the one behind, till
# there is none.
def walked(words):
    table = {}
    address = 0
    told = told_at(words, address)
    while told is not None:
        table[address] = told
        address = told[1]
        told = told_at(words, address)
    return table


# The address behind the last row of a table.
def behind(table):
    return max([told[1] for told in table.values()], default=0)
