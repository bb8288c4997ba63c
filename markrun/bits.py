"""Words of 32 bits: sums, moves, parts, signs and bytes."""

from markrun.errors import BadNumber

WORD_BITS = 32
# One more than the greatest word.
BEYOND = 4294967296
# The lowest bit of each of a word's four bytes.
BYTE_LOWS = (0, 8, 16, 24)


# Whether a thing, of whatever sort, is a number that so many bits tell.
def is_number(thing, width):
    # Python counts True and False as numbers.
    if isinstance(thing, bool) or not isinstance(thing, int):
        return False
    return 0 <= thing and thing < (1 << width)


def added(one, other, carry):
    total = one + other + (1 if carry else 0)
    return (total % BEYOND, total >= BEYOND)


def taken(one, other, borrow):
    left = one - other - (1 if borrow else 0)
    if left < 0:
        return (left + BEYOND, True)
    return (left, False)


def moved_left(word, count):
    moved = word << count
    # What falls out last comes to lie just beyond the word.
    fallen = None if count == 0 else part(moved, WORD_BITS, 1) == 1
    return (part(moved, 0, WORD_BITS), fallen)


def moved_right(word, count):
    fallen = None if count == 0 else part(word, count - 1, 1) == 1
    return (word >> count, fallen)


def part(word, low, width):
    return (word >> low) & ((1 << width) - 1)


def with_part(word, low, width, number):
    there = ((1 << width) - 1) << low
    return (word & ~there) | (number << low)


def signed(number, width):
    power = 1 << width
    return number if 2 * number < power else number - power


def unsigned(number, width):
    power = 1 << width
    if 2 * number < -power or 2 * number >= power:
        # The number stays unsaid: Python refuses to write out a very long one.
        raise BadNumber(f"no number of {width} bits has that as its signed one")
    return number if number >= 0 else number + power


def bytes_of(word):
    return tuple([part(word, low, 8) for low in BYTE_LOWS])


def word_of(four):
    return sum([byte << low for byte, low in zip(four, BYTE_LOWS)])
