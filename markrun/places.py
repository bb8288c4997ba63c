"""Where rows stand once they are written into words."""

from markrun.items import rows_of


def addresses(items, far):
    twofold = dict([(number, True) for number in far])
    told = []
    address = 0
    for number in range(len(rows_of(items))):
        told.append(address)
        address += 2 if number in twofold else 1
    told.append(address)
    return told
