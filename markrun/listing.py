"""Listings: words with their addresses and what they tell."""

from markrun.errors import BadNumber, BadText
from markrun.hexes import hex_text, read_hex
from markrun.texts import item_text
from markrun.unwords import table_of

ADDRESS_SIGNS = 5


def listing(words):
    table = table_of(words)
    rows = []
    for address, word in enumerate(words):
        row = str(address).rjust(ADDRESS_SIGNS) + "  " + hex_text(word)
        # At a far jump's second word no row stands.
        if address in table:
            row = row + "  " + told_text(table[address])
        rows.append(row + "\n")
    return "".join(rows)


# A row as texts have it, with a jump's address in the place of its name.
def told_text(told):
    target = told[2]
    return item_text(told[0] if target is None else told[0] + (str(target),))


def read_listing(text):
    words = []
    for row in text.split("\n"):
        parts = [word for word in row.split(" ") if word != ""]
        if parts != []:
            words.append(word_told(parts, len(words)))
    return words


# The word of a row that has to bear this number.
def word_told(parts, number):
    if len(parts) < 2 or parts[0] != str(number):
        raise BadText(f"row {number} does not begin with its number and a word")
    try:
        return read_hex(parts[1])
    except BadNumber:
        raise BadText(f"row {number} has no word of eight signs") from None
