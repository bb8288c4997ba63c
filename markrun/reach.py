"""Which jumps reach their labels, and which have to be far."""

from markrun.items import targets_of
from markrun.places import addresses

# How far a near jump leads at most.
NEAR_BACK = 16
NEAR_ON = 15


def reaches(items, far):
    return not_reaching(items, far) == []


def far_rows(items):
    # A jump that is made far only moves others apart, never together: what
    # doesn't reach now won't with more far ones, so each choice that reaches has it.
    far = []
    lacking = not_reaching(items, far)
    while lacking != []:
        far = sorted(far + lacking)
        lacking = not_reaching(items, far)
    return far


# The numbers of the near jumps that don't reach, rising.
def not_reaching(items, far):
    distances = distances_of(items, far)
    chosen = dict([(number, True) for number in far])
    near = [number for number in range(len(distances)) if number not in chosen]
    return [number for number in near if not is_near(distances[number])]


# The distance of each row that is a jump, None of all others.
def distances_of(items, far):
    at = addresses(items, far)
    return [
        None if target is None else at[target] - at[number]
        for number, target in enumerate(targets_of(items))
    ]


# A row that is no jump has no distance, and so none that is too great.
def is_near(distance):
    return distance is None or (-NEAR_BACK <= distance and distance <= NEAR_ON)
