"""Programs as texts, an item a row."""

from markrun.errors import BadText
from markrun.items import is_item, is_jump, is_label
from markrun.kinds import FIELDS

FIGURES = "0123456789"
# No number of an item has more figures.
FIGURES_MOST = 5


def shown(items):
    return "".join([item_text(item) + "\n" for item in items])


def item_text(item):
    if is_label(item):
        return item[1] + ":"
    fields = FIELDS[item[0]]
    return " ".join([item[0]] + [field_text(field, held) for field, held in zip(fields, item[1:])])


def field_text(field, held):
    if field == "n":
        return str(held)
    if field == "d" or field == "s":
        return f"r{held}"
    return held


def read(text):
    told = told_rows(text)
    wrong = least_fault(told)
    if wrong is not None:
        raise BadText(f"row {wrong} can't be read")
    return [item for number, item in told]


def fault(text):
    return least_fault(told_rows(text))


# Pairs of each row's number and its item, None where it is none; without the
# rows that are passed over.
def told_rows(text):
    told = []
    for number, row in enumerate(text.split("\n")):
        words = words_in(row)
        if words != []:
            told.append((number, item_told(words)))
    return told


def words_in(row):
    # Blanks and tabs alone part words; a bare split() would take other signs, too.
    looked_at = row.partition(";")[0].replace("\t", " ")
    return [word for word in looked_at.split(" ") if word != ""]


def item_told(words):
    item = row_told(words)
    if len(words) == 1 and words[0].endswith(":"):
        item = ("label", words[0][:-1])
    return item if is_item(item) else None


# The words as a row, None where they have no row's form; whether what it holds
# is within its bounds is still to be asked.
def row_told(words):
    kind = words[0]
    # A label is not written by its kind.
    if kind == "label" or kind not in FIELDS:
        return None
    fields = FIELDS[kind]
    if len(words) != len(fields) + 1:
        return None
    return tuple([kind] + [field_told(field, word) for field, word in zip(fields, words[1:])])


def field_told(field, word):
    if field == "n":
        return number_told(word)
    if field == "d" or field == "s":
        return number_told(word[1:]) if word.startswith("r") else None
    return word


def number_told(word):
    # Python refuses to read a very long number, so its length is looked at first.
    if word == "" or len(word) > FIGURES_MOST:
        return None
    if not all([sign in FIGURES for sign in word]):
        return None
    if word.startswith("0") and word != "0":
        return None
    return int(word)


def least_fault(told):
    names = {}
    for number, item in told:
        if item is not None and is_label(item):
            names[item[1]] = True
    ahead = {}
    for number, item in told:
        if item is None:
            return number
        if is_jump(item) and item[-1] not in names:
            return number
        if is_label(item):
            if item[1] in ahead:
                return number
            ahead[item[1]] = True
    return None
