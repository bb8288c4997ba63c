"""Words as texts of eight signs."""

from markrun.bits import part
from markrun.errors import BadNumber

SIGNS = "0123456789abcdef"
# The lowest bit that each sign tells of, the highest first.
SIGN_LOWS = (28, 24, 20, 16, 12, 8, 4, 0)


def hex_text(word):
    return "".join([SIGNS[part(word, low, 4)] for low in SIGN_LOWS])


def read_hex(text):
    # int(text, 16) would take great letters, blanks, "_" and "0x" as well.
    if len(text) != len(SIGN_LOWS):
        raise BadNumber(f"{text!r} is not of eight signs")
    word = 0
    for sign in text:
        if sign not in SIGNS:
            raise BadNumber(f"{sign!r} is no sign of a word")
        word = word * 16 + SIGNS.index(sign)
    return word
