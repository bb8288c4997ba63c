"""The kinds of items and rows: what stands in each, and how a word tells it."""

# A mark's number in a word is its place here.
MARKS = ("carry", "nought", "sign")

# A name has from one to so many of these letters.
NAME_LONGEST = 8
LETTERS = "abcdefghijklmnopqrstuvwxyz"

# The kinds of rows that lead to a label; its name stands last in them.
JUMPS = ("jump", "when", "unless")

# What stands behind the kind in an item, in order: "d" and "s" are numbers
# of registers, "n" is another number, "mark" one of MARKS, "name" a label's.
FIELDS = {
    "label": ("name",),
    "set": ("d", "n"),
    "high": ("d", "n"),
    "copy": ("d", "s"),
    "add": ("d", "s"),
    "addc": ("d", "s"),
    "sub": ("d", "s"),
    "subc": ("d", "s"),
    "and": ("d", "s"),
    "or": ("d", "s"),
    "xor": ("d", "s"),
    "test": ("d", "s"),
    "left": ("d", "n"),
    "right": ("d", "n"),
    "load": ("d", "s", "n"),
    "store": ("d", "s", "n"),
    "loadw": ("d", "s", "n"),
    "storew": ("d", "s", "n"),
    "jump": ("name",),
    "when": ("mark", "name"),
    "unless": ("mark", "name"),
    "stop": (),
}

# How many bits n has: it is below 2 to the power of that, in items as in words.
NUMBER_WIDTHS = {
    "set": 16,
    "high": 16,
    "left": 5,
    "right": 5,
    "load": 8,
    "store": 8,
    "loadw": 8,
    "storew": 8,
}

# Where a word tells what: the lowest bit, and how many bits.
# n is not among them: it stands from NUMBER_LOW on, its width hangs on the kind.
PLACES = {
    "kind": (27, 5),
    "d": (24, 3),
    "s": (21, 3),
    "mark": (24, 2),
    "distance": (0, 5),
}
NUMBER_LOW = 0

# The number of each kind of row that is no jump.
CODES = {
    "stop": 0,
    "set": 1,
    "high": 2,
    "copy": 3,
    "add": 4,
    "addc": 5,
    "sub": 6,
    "subc": 7,
    "and": 8,
    "or": 9,
    "xor": 10,
    "test": 11,
    "left": 12,
    "right": 13,
    "load": 14,
    "store": 15,
    "loadw": 16,
    "storew": 17,
}

# A jump has two numbers, as its word tells the distance or a second word does.
NEAR_CODES = {"jump": 18, "when": 19, "unless": 20}
FAR_CODES = {"jump": 21, "when": 22, "unless": 23}
