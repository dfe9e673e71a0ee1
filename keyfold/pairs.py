"""Two folds by one order put together."""

from keyfold.rows import Rows, place_of, side_of


def joined(one, other, order):
    return put_together(one, other, order, names_of_both)


def common(one, other, order):
    return put_together(one, other, order, names_in_common)


def less(one, other, order):
    return put_together(one, other, order, names_of_one_alone)


def names_of_both(names, others):
    return tuple(sorted(set(names + others)))


def names_in_common(names, others):
    return tuple([name for name in names if name in others])


def names_of_one_alone(names, others):
    return tuple([name for name in names if name not in others])


def put_together(one, other, order, names_of):
    pairs = Pairs(one, other, order)
    return pairs.rows.fold_from(pairs.number_of_pair((len(one) - 1, len(other) - 1), names_of))


# Two folds gone through side by side: each pair of rows that some thing comes to is made a row once.
class Pairs:
    def __init__(self, one, other, order):
        self.folds = (one, other)
        self.rows = Rows(order)
        self.made = {}

    def number_of_pair(self, pair, names_of):
        if pair not in self.made:
            self.made[pair] = self.pair_anew(pair, names_of)
        return self.made[pair]

    def pair_anew(self, pair, names_of):
        order = self.rows.order
        rows = [fold[number] for fold, number in zip(self.folds, pair)]
        first = min([place_of(row, order) for row in rows])
        if first == len(order):
            return self.rows.number_of(("names", names_of(rows[0][1], rows[1][1])))
        no = self.number_of_pair(self.side_of_pair(pair, order[first], 0), names_of)
        yes = self.number_of_pair(self.side_of_pair(pair, order[first], 1), names_of)
        return self.rows.number_of_ask(order[first], no, yes)

    def side_of_pair(self, pair, character, value):
        return tuple([side_of(fold, number, character, value) for fold, number in zip(self.folds, pair)])
