"""Rows and programs that several tests go through."""

import random

MARKS = ("carry", "nought", "sign")
OF_TWO_REGISTERS = ("copy", "add", "addc", "sub", "subc", "and", "or", "xor", "test")
OF_MEMORY = ("load", "store", "loadw", "storew")
# The greatest n of each kind that has a d and an n.
OF_NUMBERS = {"set": 65535, "high": 65535, "left": 31, "right": 31}


def rows_at_the_ends():
    """Rows of every kind but jumps, with their parts at both ends and between."""
    rows = [("stop",)]
    for kind, greatest in OF_NUMBERS.items():
        rows.extend((kind, d, n) for d in (0, 3, 7) for n in (0, 1, greatest // 2, greatest - 1, greatest))
    for kind in OF_TWO_REGISTERS:
        rows.extend((kind, d, s) for d in range(8) for s in range(8))
    for kind in OF_MEMORY:
        rows.extend((kind, d, s, n) for d in (0, 4, 7) for s in (0, 5, 7) for n in (0, 1, 128, 255))
    return rows


def some_row(chance):
    kind = chance.choice(tuple(OF_NUMBERS) + OF_TWO_REGISTERS + OF_MEMORY)
    d = chance.randrange(8)
    if kind in OF_NUMBERS:
        return (kind, d, chance.randrange(OF_NUMBERS[kind] + 1))
    if kind in OF_TWO_REGISTERS:
        return (kind, d, chance.randrange(8))
    return (kind, d, chance.randrange(8), chance.randrange(256))


def some_jump(chance, names):
    kind = chance.choice(("jump", "when", "unless", "when", "unless"))
    if kind == "jump":
        return (kind, chance.choice(names))
    return (kind, chance.choice(MARKS), chance.choice(names))


def some_names(chance, count):
    """Names that differ, some of them words of rows, in no order."""
    names = {"stop", "jump", "carry", "label", "r", "z", "abcdefgh", "zzzzzzzz"}
    while len(names) < count:
        names.add("".join(chance.choice("abcxyz") for turn in range(chance.randrange(1, 9))))
    names = sorted(names)
    chance.shuffle(names)
    return names[:count]


def some_program(seed, rows=20, jumps=3, stops=1, labels=4):
    """About so many rows, so many out of ten of them jumps, so many stops, labels anywhere."""
    chance = random.Random(seed)
    names = some_names(chance, labels)
    items = []
    for turn in range(rows):
        if names and chance.randrange(10) < jumps:
            items.append(some_jump(chance, names))
        else:
            items.append(some_row(chance))
    for turn in range(stops):
        items.insert(chance.randrange(len(items) + 1), ("stop",))
    for name in names:
        items.insert(chance.choice((chance.randrange(len(items) + 1), len(items))), ("label", name))
    return items


def program(text):
    """A program written as a text, by the plainest reading of it; rows may be parted by commas, too."""
    items = []
    for row in text.replace(",", "\n").split("\n"):
        words = row.split()
        if not words:
            continue
        if words[0].endswith(":"):
            items.append(("label", words[0][:-1]))
            continue
        held = [int(word) if word.isdigit() else word for word in words[1:]]
        jump = words[0] in ("jump", "when", "unless")
        held = [int(word[1:]) if not jump and isinstance(word, str) else word for word in held]
        items.append(tuple([words[0]] + held))
    return items
