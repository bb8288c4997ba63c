"""What rows do to a machine's state."""

from markrun.bits import WORD_BITS, added, moved_left, moved_right, part, taken, with_part
from markrun.kinds import MARKS
from markrun.memory import address_of, byte_at, put_byte, put_word, word_at


# The words of the registers, the marks' truths by their names, and the bytes
# of the memory.
class State:
    def __init__(self, words, held):
        # Copies, so that what it was made from stays for the next one.
        self.words = list(words)
        self.truths = dict([(mark, False) for mark in MARKS])
        self.held = dict(held)


def do_set(state, row):
    state.words[row[1]] = row[2]


def do_high(state, row):
    state.words[row[1]] = with_part(state.words[row[1]], 16, 16, row[2])


def do_copy(state, row):
    state.words[row[1]] = state.words[row[2]]


# add, addc, sub, subc and test.
def do_sum(state, row):
    told = summed(row[0], state.words[row[1]], state.words[row[2]], state.truths["carry"])
    state.truths["carry"] = told[1]
    look_at(state, told[0])
    if row[0] != "test":
        state.words[row[1]] = told[0]


def summed(kind, one, other, carry):
    if kind == "add":
        return added(one, other, False)
    if kind == "addc":
        return added(one, other, carry)
    return taken(one, other, carry and kind == "subc")


# The marks nought and sign become those of a word.
def look_at(state, word):
    state.truths["nought"] = word == 0
    state.truths["sign"] = part(word, WORD_BITS - 1, 1) == 1


# and, or and xor.
def do_bits(state, row):
    word = joined(row[0], state.words[row[1]], state.words[row[2]])
    look_at(state, word)
    state.words[row[1]] = word


def joined(kind, one, other):
    if kind == "and":
        return one & other
    if kind == "or":
        return one | other
    return one ^ other


# left and right.
def do_move(state, row):
    word = state.words[row[1]]
    told = moved_left(word, row[2]) if row[0] == "left" else moved_right(word, row[2])
    if told[1] is not None:
        state.truths["carry"] = told[1]
    look_at(state, told[0])
    state.words[row[1]] = told[0]


def address_in(state, row):
    return address_of(state.words[row[2]], row[3])


def do_load(state, row):
    state.words[row[1]] = byte_at(state.held, address_in(state, row))


def do_loadw(state, row):
    state.words[row[1]] = word_at(state.held, address_in(state, row))


def do_store(state, row):
    put_byte(state.held, address_in(state, row), state.words[row[1]])


def do_storew(state, row):
    put_word(state.held, address_in(state, row), state.words[row[1]])


DEEDS = {
    "set": do_set,
    "high": do_high,
    "copy": do_copy,
    "add": do_sum,
    "addc": do_sum,
    "sub": do_sum,
    "subc": do_sum,
    "test": do_sum,
    "and": do_bits,
    "or": do_bits,
    "xor": do_bits,
    "left": do_move,
    "right": do_move,
    "load": do_load,
    "loadw": do_loadw,
    "store": do_store,
    "storew": do_storew,
}


# Jumps and stop change nothing but what is due.
def do_row(state, row):
    if row[0] in DEEDS:
        DEEDS[row[0]](state, row)


# Whether a row leads elsewhere than to the next one.
def leads(state, row):
    if row[0] == "when":
        return state.truths[row[1]]
    if row[0] == "unless":
        return not state.truths[row[1]]
    return row[0] == "jump"
