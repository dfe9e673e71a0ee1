"""Rows of folds: what they lead to, in which order they stand, and how they are gathered."""


# A leaf row has two parts; only rows are handed in, so the length tells the two forms apart.
def asks(row):
    return len(row) == 3


# The numbers of the rows that a row leads to.
def rows_below(row):
    return row[1:] if asks(row) else ()


# A leaf row asks nothing, so its place is behind every character.
def place_of(row, order):
    return order.index(row[0]) if asks(row) else len(order)


# The number that a row leads to for things that have this value; a row that asks something else stays where it is.
def side_of(rows, number, character, value):
    row = rows[number]
    return row[1 + value] if row[0] == character else number


# The numbers of the rows that are come to from the top, as they are left by going to no first, then to yes.
def rows_as_left(rows, top):
    left = {}
    leave_row(rows, top, left)
    return list(left)


# Rows lead only to rows ahead of them, so the walk ends; by the order it goes no deeper than there are characters.
def leave_row(rows, number, left):
    for below in rows_below(rows[number]):
        if below not in left:
            leave_row(rows, below, left)
    left[number] = True


def with_numbers(row, numbers):
    return (row[0], numbers[row[1]], numbers[row[2]]) if asks(row) else row


# Rows by one order, each once, in the order in which they came; what no fold comes to may be among them.
class Rows:
    def __init__(self, order):
        self.order = order
        self.gathered = []
        self.numbers = {}
        self.choices = {}

    def number_of(self, row):
        if row not in self.numbers:
            self.numbers[row] = len(self.gathered)
            self.gathered.append(row)
        return self.numbers[row]

    # A row that leads to one row alone asks in vain: that row stands for it.
    def number_of_ask(self, character, no, yes):
        return no if no == yes else self.number_of((character, no, yes))

    def side(self, number, character, value):
        return side_of(self.gathered, number, character, value)

    def first_character(self, character, no, yes):
        places = [place_of(self.gathered[number], self.order) for number in (no, yes)]
        return self.order[min(places + [self.order.index(character)])]

    # The row that answers as no does where a thing has 0 for the character, as yes does where it has 1.
    # No and yes may ask anything, the character too, so it can't simply be asked ahead of them.
    def choose(self, character, no, yes):
        choice = (character, no, yes)
        if choice not in self.choices:
            self.choices[choice] = no if no == yes else self.choose_anew(character, no, yes)
        return self.choices[choice]

    def choose_anew(self, character, no, yes):
        first = self.first_character(character, no, yes)
        if first == character:
            return self.number_of_ask(character, self.side(no, character, 0), self.side(yes, character, 1))
        without = self.choose(character, self.side(no, first, 0), self.side(yes, first, 0))
        having = self.choose(character, self.side(no, first, 1), self.side(yes, first, 1))
        return self.number_of_ask(first, without, having)

    def fold_from(self, top):
        left = rows_as_left(self.gathered, top)
        numbers = {}
        for place, number in enumerate(left):
            numbers[number] = place
        return tuple([with_numbers(self.gathered[number], numbers) for number in left])


# The fold with the names that names_of makes of each leaf's; rows that become alike by it become one.
def renamed(fold, order, names_of):
    rows = Rows(order)
    numbers = []
    for row in fold:
        if asks(row):
            numbers.append(rows.number_of_ask(row[0], numbers[row[1]], numbers[row[2]]))
        else:
            numbers.append(rows.number_of(("names", names_of(row[1]))))
    return rows.fold_from(numbers[-1])
