"""Keys, things and ways to answer that several tests go through, and what is told of them without the program."""

import itertools
import random

NONE = ("names", ())
OAK = ("names", ("oak",))
ELM = ("names", ("elm",))
TREES = ("names", ("ash", "elm", "oak"))


def each_thing(many):
    return list(itertools.product((0, 1), repeat=many))


def each_leaf_of(many, leaves):
    """Each way to answer with these leaves: a dict from things to leaves."""
    things = each_thing(many)
    for told in itertools.product(leaves, repeat=len(things)):
        yield dict(zip(things, told))


def each_key(many, leaves, depth):
    """Each key with these leaves of which no part lies in more others than told."""
    if depth == 0:
        return list(leaves)
    inner = each_key(many, leaves, depth - 1)
    asks = [("ask", character, no, yes) for character in range(many) for no in inner for yes in inner]
    return list(leaves) + asks


def drawn_key(source, many, depth, leaves):
    if depth == 0 or source.random() < 0.1:
        return source.choice(leaves)
    parts = [drawn_key(source, many, depth - 1, leaves) for _ in range(2)]
    return ("ask", source.randrange(many), parts[0], parts[1])


def drawn_keys(count, many, depth, leaves=(NONE, OAK, ELM, TREES)):
    source = random.Random(many * 100 + depth)
    return [drawn_key(source, many, depth, leaves) for _ in range(count)]


def drawn_orders(count, many):
    source = random.Random(many)
    return [tuple(source.sample(range(many), many)) for _ in range(count)]


def leaf_for(key, thing):
    """The leaf that a key's way for this thing ends at."""
    if len(key) == 2:
        return key
    word, character, no, yes = key
    return leaf_for({0: no, 1: yes}[thing[character]], thing)


def leaves_of(key, many):
    return {thing: leaf_for(key, thing) for thing in each_thing(many)}


def fold_of(leaf_of, order):
    """The fold by this order of a dict from things to leaf rows, built row by row as it is left."""
    rows = []

    def add(row):
        if row not in rows:
            rows.append(row)
        return rows.index(row)

    def walk(place, known):
        if place == len(order):
            return add(leaf_of[tuple(known[character] for character in range(len(order)))])
        inner = [{**known, order[place]: value} for value in (0, 1)]
        if all(alike(inner, place + 1)):
            return walk(place + 1, inner[0])
        no = walk(place + 1, inner[0])
        yes = walk(place + 1, inner[1])
        return add((order[place], no, yes))

    def alike(inner, place):
        for rest in itertools.product((0, 1), repeat=len(order) - place):
            ends = [{**known, **dict(zip(order[place:], rest))} for known in inner]
            one, other = [leaf_of[tuple(end[character] for character in range(len(order)))] for end in ends]
            yield one == other

    walk(0, {})
    return tuple(rows)


def ways_to_go_on(leaf_of, order):
    """How many unlike ways to answer are left when the first characters of the order are known, however many."""
    ways = set()
    for count in range(len(order) + 1):
        for known in itertools.product((0, 1), repeat=count):
            held = dict(zip(order, known))
            ways.add(tuple(
                leaf_of[tuple(held.get(character, value) for character, value in enumerate(thing))]
                for thing in leaf_of
            ))
    return len(ways)


EVERY_LEAF = [
    ("names", names) for many in range(4) for names in itertools.combinations(("ash", "elm", "oak"), many)
]


def each_sheet(many):
    return list(itertools.product((0, 1, None), repeat=many))


def drawn_sheets(count, many):
    """Sheets with nothing known, with all known and with some, in turn."""
    source = random.Random(count * 100 + many)
    drawn = [tuple(source.choice((0, 1, None)) for _ in range(many)) for _ in range(count)]
    return [(None,) * many, tuple(source.choice((0, 1)) for _ in range(many))] + drawn


def agrees(thing, sheet):
    return all(value is None or part == value for part, value in zip(thing, sheet))


def agreeing(sheet):
    return [thing for thing in each_thing(len(sheet)) if agrees(thing, sheet)]


def as_known(thing, sheet):
    """The thing that has what the sheet has, and what this thing has where the sheet has None."""
    return tuple(part if value is None else value for part, value in zip(thing, sheet))


def flipped(thing, character):
    return tuple(1 - part if place == character else part for place, part in enumerate(thing))


def names_for(fold, thing):
    """The names of the leaf row that a fold's way for this thing ends at."""
    row = fold[len(fold) - 1]
    while len(row) == 3:
        character, no, yes = row
        row = fold[{0: no, 1: yes}[thing[character]]]
    word, names = row
    return names


def names_by_thing(fold, many):
    return {thing: names_for(fold, thing) for thing in each_thing(many)}


def fold_answering(names_of, order):
    """The fold by this order that answers the names that a dict has for each thing, in whatever order they come."""
    return fold_of({thing: ("names", tuple(sorted(names))) for thing, names in names_of.items()}, order)


def each_fold(order, leaves):
    return [fold_of(leaf_of, order) for leaf_of in each_leaf_of(len(order), leaves)]


def drawn_folds(count, order, leaves=tuple(EVERY_LEAF)):
    """Folds that hang of all characters, of some and of none."""
    source = random.Random(f"{count} {order}")
    folds = []
    for number in range(count):
        if number % 3 == 0:
            leaf_of = {thing: source.choice(leaves) for thing in each_thing(len(order))}
        else:
            leaf_of = leaves_of(drawn_key(source, len(order), source.randrange(len(order) + 2), leaves), len(order))
        folds.append(fold_of(leaf_of, order))
    return folds
