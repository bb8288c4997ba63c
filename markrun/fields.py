"""How a row's first word tells its kind and what stands in the row."""

from markrun.bits import part, with_part
from markrun.kinds import CODES, FAR_CODES, FIELDS, MARKS, NEAR_CODES, NUMBER_LOW, NUMBER_WIDTHS, PLACES


# Where a field of a row of that kind stands: the lowest bit, and how many bits.
def place_in_word(kind, field):
    if field == "n":
        return (NUMBER_LOW, NUMBER_WIDTHS[kind])
    return PLACES[field]


def number_at(word, place):
    return part(word, place[0], place[1])


def with_number(word, place, number):
    return with_part(word, place[0], place[1], number)


# A jump's name stands in no word: its distance does.
def fields_in_word(kind):
    return [field for field in FIELDS[kind] if field != "name"]


# The first word of a row whose kind has that number; a jump's distance is left 0.
def first_word(row, code):
    word = with_number(0, PLACES["kind"], code)
    for field, held in zip(fields_in_word(row[0]), row[1:]):
        number = MARKS.index(held) if field == "mark" else held
        word = with_number(word, place_in_word(row[0], field), number)
    return word


def code_in(word):
    return number_at(word, PLACES["kind"])


def kind_of_code(code):
    found = [kind for kind in CODES if CODES[kind] == code]
    found.extend([kind for kind in NEAR_CODES if NEAR_CODES[kind] == code])
    found.extend([kind for kind in FAR_CODES if FAR_CODES[kind] == code])
    return None if found == [] else found[0]


def is_near_code(code):
    return code in list(NEAR_CODES.values())


def is_far_code(code):
    return code in list(FAR_CODES.values())


# The row that a first word tells, a jump without its name; None where it tells none.
def row_in(word):
    code = code_in(word)
    kind = kind_of_code(code)
    if kind is None:
        return None
    row = tuple([kind] + [held_in(word, kind, field) for field in fields_in_word(kind)])
    if None in row:
        return None
    known = with_number(word, PLACES["distance"], 0) if is_near_code(code) else word
    # Written anew it is the same, but for bits that are to be 0.
    return row if first_word(row, code) == known else None


# What a word tells in a field; None of a mark that there is not.
def held_in(word, kind, field):
    number = number_at(word, place_in_word(kind, field))
    if field != "mark":
        return number
    return MARKS[number] if number < len(MARKS) else None
