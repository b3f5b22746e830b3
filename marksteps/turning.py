"""The list of all rows of a length, in which each row leads to the next by one turn."""

from marksteps.errors import NoChange, NoForm, NoRow
from marksteps.listing import LONGEST, Listing


def count_all(signs, length):
    rows = 1
    for spot in range(length):
        rows = rows * signs
    return rows


class Turning(Listing):
    def __init__(self, signs, length):
        if signs < 2 or signs > 10 ** 12:
            raise NoForm("a turning list has from 2 to 10 ** 12 signs")
        if length < 0 or length > LONGEST:
            raise NoForm("a turning list has a length from 0 to 200")
        Listing.__init__(self, count_all(signs, length))
        self.signs = signs
        self.length = length

    def row_at(self, place):
        self.check_place(place)
        row = []
        figure = place % self.signs
        rest = place // self.signs
        for spot in range(self.length):
            # Behind the last figure nothing is left of the place, so the one more figure comes out as 0.
            behind = rest % self.signs
            rest = rest // self.signs
            row.append((figure - behind) % self.signs)
            figure = behind
        return row

    def place_of(self, row):
        self.check_row(row)
        place = 0
        for figure in reversed(self.figures_of(row)):
            place = place * self.signs + figure
        return place

    def change(self, row):
        self.check_row(row)
        if self.size == 1:
            return None
        figures = self.figures_of(row)
        spot = 0
        # For the next place the greatest figures in front become 0 and the figure behind them one more. All of
        # these go one on, so of their marks only the last one's differs, whose next figure stays as it was.
        # In the last row all figures are the greatest, and the one more figure stays 0: the last mark differs.
        while spot < self.length - 1 and figures[spot] == self.signs - 1:
            spot = spot + 1
        return ("turn", spot)

    def done(self, row, change):
        return self.turned(row, change, 1)

    def undone(self, row, change):
        return self.turned(row, change, -1)

    def turned(self, row, change, by):
        self.check_row(row)
        told = list(row)
        if change is not None:
            self.check_turn(change)
            spot = change[1]
            told[spot] = (told[spot] + by) % self.signs
        return told

    def figures_of(self, row):
        figures = []
        figure = 0
        # Each mark is its figure less the next one: from the last mark on, the next figure is known.
        for mark in reversed(row):
            figure = (mark + figure) % self.signs
            figures.append(figure)
        figures.reverse()
        return figures

    def check_row(self, row):
        if len(row) != self.length:
            raise NoRow("a row of the list has another length")
        for mark in row:
            if mark < 0 or mark >= self.signs:
                raise NoRow("no row of the list has such a mark")

    def check_turn(self, change):
        if change[0] != "turn":
            raise NoChange("only a turn fits a turning list")
        if change[1] < 0 or change[1] >= self.length:
            raise NoChange("a row of the list has no such spot")
