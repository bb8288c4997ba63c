"""Words told bit by bit, as the document tells them."""

from programs import OF_MEMORY

KINDS = (
    "stop", "set", "high", "copy", "add", "addc", "sub", "subc", "and", "or", "xor", "test", "left", "right",
    "load", "store", "loadw", "storew",
)
NEAR = {"jump": 18, "when": 19, "unless": 20}
FAR = {"jump": 21, "when": 22, "unless": 23}
MARKS = ("carry", "nought", "sign")


def bits(number, width):
    """A number by so many signs 0 and 1; one below nought as that many bits tell it."""
    signs = ""
    for turn in range(width):
        signs = str(number % 2) + signs
        number //= 2
    return signs


def word(*parts):
    """The word of signs 0 and 1, the highest first."""
    signs = "".join(parts)
    assert len(signs) == 32
    return int(signs, 2)


def wanted_word(row):
    kind = bits(KINDS.index(row[0]), 5)
    if row[0] == "stop":
        return word(kind, "0" * 27)
    if row[0] in ("set", "high"):
        return word(kind, bits(row[1], 3), "0" * 8, bits(row[2], 16))
    if row[0] in ("left", "right"):
        return word(kind, bits(row[1], 3), "0" * 19, bits(row[2], 5))
    if row[0] in OF_MEMORY:
        return word(kind, bits(row[1], 3), bits(row[2], 3), "0" * 13, bits(row[3], 8))
    return word(kind, bits(row[1], 3), bits(row[2], 3), "0" * 21)


def mark_bits(row):
    """Bits 26 to 24 of a jump's word."""
    return "000" if row[0] == "jump" else "0" + bits(MARKS.index(row[1]), 2)


def near_word(row, distance):
    return word(bits(NEAR[row[0]], 5), mark_bits(row), "0" * 19, bits(distance, 5))


def far_words(row, distance):
    return [word(bits(FAR[row[0]], 5), mark_bits(row), "0" * 24), word(bits(distance, 32))]


def jumps():
    told = [("jump", "a")]
    for kind in ("when", "unless"):
        told.extend((kind, mark, "a") for mark in MARKS)
    return told


def jump_numbers(items):
    rows = [item for item in items if item[0] != "label"]
    return [number for number, row in enumerate(rows) if row[0] in NEAR]


def written_far(items):
    """The words of a program with all of its jumps far."""
    places, at, address = {}, [], 0
    for item in items:
        if item[0] == "label":
            places[item[1]] = address
        else:
            at.append(address)
            address += 2 if item[0] in NEAR else 1
    words = []
    for number, row in enumerate([item for item in items if item[0] != "label"]):
        if row[0] in NEAR:
            words.extend(far_words(row, places[row[-1]] - at[number]))
        else:
            words.append(wanted_word(row))
    return words
