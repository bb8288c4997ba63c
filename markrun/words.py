"""Programs written into words."""

from markrun.bits import WORD_BITS, unsigned
from markrun.fields import first_word, with_number
from markrun.items import rows_of
from markrun.kinds import CODES, FAR_CODES, NEAR_CODES, PLACES
from markrun.reach import distances_of, far_rows


def word_of_row(row):
    return first_word(row, CODES[row[0]])


def written(items):
    far = far_rows(items)
    distances = distances_of(items, far)
    words = []
    for number, row in enumerate(rows_of(items)):
        if distances[number] is None:
            words.append(word_of_row(row))
        elif number in far:
            words.extend(far_words(row, distances[number]))
        else:
            words.append(near_word(row, distances[number]))
    return words


def near_word(row, distance):
    place = PLACES["distance"]
    return with_number(first_word(row, NEAR_CODES[row[0]]), place, unsigned(distance, place[1]))


def far_words(row, distance):
    return [first_word(row, FAR_CODES[row[0]]), unsigned(distance, WORD_BITS)]
