"""Names that a fold never tells apart, and things that tell two names apart."""

from keyfold.counting import least_thing, leaves_with
from keyfold.rows import asks
from keyfold.sheets import blank_sheet


# Each leaf is come to by some thing, so names that stand at the same leaves are the ones that are never told apart.
def twins(fold):
    leaves = leaves_of_names(fold)
    names = sorted(leaves)
    pairs = []
    for place, one in enumerate(names):
        for other in names[place + 1:]:
            if leaves[one] == leaves[other]:
                pairs.append((one, other))
    return tuple(pairs)


def leaves_of_names(fold):
    leaves = {}
    for number, row in enumerate(fold):
        if not asks(row):
            for name in row[1]:
                leaves.setdefault(name, []).append(number)
    return leaves


def parting(fold, one, other, many):
    leaves = sorted(set(leaves_with(fold, one)) ^ set(leaves_with(fold, other)))
    return least_thing(fold, leaves, blank_sheet(many))
