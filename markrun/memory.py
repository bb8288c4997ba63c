"""The bytes of a machine's memory: a dict by addresses, in which a byte that lacks is 0."""

from markrun.bits import bytes_of, is_number, part, word_of
from markrun.errors import BadState

ADDRESS_BITS = 16
BYTE_BITS = 8


# The bytes of a memory as it is handed in, a list of pairs or None.
def bytes_from(memory):
    held = {}
    if memory is None:
        return held
    if not isinstance(memory, list):
        raise BadState("memory is no list")
    for pair in memory:
        if not is_pair(pair):
            raise BadState("memory has something else than a pair of an address and a byte")
        if pair[0] in held:
            raise BadState("memory has an address twice")
        held[pair[0]] = pair[1]
    return held


def is_pair(thing):
    if not isinstance(thing, tuple) or len(thing) != 2:
        return False
    return is_address(thing[0]) and is_number(thing[1], BYTE_BITS)


def is_address(thing):
    return is_number(thing, ADDRESS_BITS)


# The pairs of all bytes that aren't 0, rising.
def pairs_of(held):
    return [(address, held[address]) for address in sorted(held) if held[address] != 0]


def byte_at(held, address):
    return held.get(address, 0)


# The address that a word and a number together tell.
def address_of(word, number):
    return part(word + number, 0, ADDRESS_BITS)


# The addresses of a word's four bytes, the lowest first.
def four_from(address):
    return [address_of(address, number) for number in range(4)]


def word_at(held, address):
    return word_of([byte_at(held, one) for one in four_from(address)])


def put_byte(held, address, word):
    held[address] = part(word, 0, BYTE_BITS)


def put_word(held, address, word):
    for one, byte in zip(four_from(address), bytes_of(word)):
        put_byte(held, one, byte)
