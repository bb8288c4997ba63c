"""What the machines over rows and over words have in common."""

from markrun.bits import WORD_BITS, is_number
from markrun.deeds import State, do_row, leads
from markrun.errors import BadState, NoAddress
from markrun.kinds import MARKS
from markrun.memory import byte_at, bytes_from, is_address, pairs_of

REGISTER_COUNT = 8


# The words of registers as they are handed in, a list or None.
def words_from(registers):
    if registers is None:
        return [0] * REGISTER_COUNT
    if not isinstance(registers, list) or len(registers) != REGISTER_COUNT:
        raise BadState("registers are no list of eight")
    if not all([is_number(thing, WORD_BITS) for thing in registers]):
        raise BadState("registers have something else than a word")
    return list(registers)


class Machine:
    # The table is a dict that tells by each row's place the row, the place
    # behind it, and the place to which it leads, None of a row that is no jump;
    # the end is the place behind the last row.
    def __init__(self, table, end, registers, memory):
        self.table = table
        self.end = end
        self.first_words = words_from(registers)
        self.first_held = bytes_from(memory)
        self.again()

    def again(self):
        self.state = State(self.first_words, self.first_held)
        self.due = 0
        self.done = 0

    def stands(self):
        return self.due == self.end or self.table[self.due][0] == ("stop",)

    def step(self):
        if self.stands():
            return False
        told = self.table[self.due]
        do_row(self.state, told[0])
        self.due = told[2] if leads(self.state, told[0]) else told[1]
        self.done += 1
        return True

    def run(self, most=1000):
        count = 0
        while count < most and self.step():
            count += 1
        return count

    def registers(self):
        return list(self.state.words)

    def marks(self):
        return tuple([self.state.truths[mark] for mark in MARKS])

    def memory(self):
        return pairs_of(self.state.held)

    def byte(self, address):
        if not is_address(address):
            raise NoAddress("there is no such address")
        return byte_at(self.state.held, address)

    def place(self):
        return self.due

    def steps(self):
        return self.done
