"""The list of the rows with just so many ones, in which each row leads to the next by one swap."""

from marksteps.counts import choose
from marksteps.errors import NoChange, NoForm, NoRow
from marksteps.listing import LONGEST, Listing


class Choosing(Listing):
    def __init__(self, length, ones):
        if length < 0 or length > LONGEST:
            raise NoForm("a choosing list has a length from 0 to 200")
        if ones < 0 or ones > length:
            raise NoForm("a choosing list has from 0 ones to as many as its length")
        Listing.__init__(self, choose(length, ones))
        self.length = length
        self.ones = ones

    def row_at(self, place):
        self.check_place(place)
        row = [0] * self.length
        # The rows of the first spots alone: how many there are, the ones among them, and the place in them.
        rows = self.size
        ones = self.ones
        inner = place
        for length in range(self.length, 0, -1):
            # choose(length - 1, ones), had from choose(length, ones) in one step.
            without = rows * (length - ones) // length
            if inner < without:
                rows = without
            else:
                row[length - 1] = 1
                # The rows with a 1 at the last spot come behind the others, from the last one back to the
                # first: counted from the end of all, they stand at the places of the shorter rows.
                inner = rows - 1 - inner
                rows = rows - without
                ones = ones - 1
        return row

    def place_of(self, row):
        self.check_row(row)
        place = 0
        rows = 1
        ones = 0
        # Each step takes one more spot in and has choose(length, ones) from the one for the spots so far.
        for length, mark in enumerate(row, 1):
            if mark == 0:
                rows = rows * length // (length - ones)
            else:
                ones = ones + 1
                rows = rows * length // ones
                place = rows - 1 - place
        return place

    def change(self, row):
        after = self.next_row(row)
        if self.size == 1:
            return None
        gone = [old - new for old, new in zip(row, after)]
        return ("swap", gone.index(1), gone.index(-1))

    def done(self, row, change):
        return self.swapped(row, change, False)

    def undone(self, row, change):
        return self.swapped(row, change, True)

    def swapped(self, row, change, back):
        self.check_row(row)
        told = list(row)
        if change is not None:
            if change[0] != "swap":
                raise NoChange("only a swap fits a choosing list")
            # To undo a swap is to do the one whose 1 goes the other way.
            out = change[2] if back else change[1]
            into = change[1] if back else change[2]
            self.check_spots(row, out, into)
            told[out] = 0
            told[into] = 1
        return told

    def check_spots(self, row, out, into):
        for spot in (out, into):
            if spot < 0 or spot >= self.length:
                raise NoChange("a row of the list has no such spot")
        if row[out] != 1 or row[into] != 0:
            raise NoChange("the row has other marks at these spots")

    def check_row(self, row):
        if len(row) != self.length:
            raise NoRow("a row of the list has another length")
        for mark in row:
            if mark != 0 and mark != 1:
                raise NoRow("no row of the list has such a mark")
        if sum(row) != self.ones:
            raise NoRow("a row of the list has another number of ones")
