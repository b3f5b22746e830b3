"""What both kinds of lists have in common: a ring of rows, walked by reckoning with places."""

from marksteps.errors import NoPlace

LONGEST = 200


# A kind of list that stands under this one tells its rows by row_at and their places by place_of.
class Listing:
    def __init__(self, size):
        self.size = size

    def many(self):
        return self.size

    def leap(self, row, steps=1):
        return self.row_at((self.place_of(row) + steps) % self.size)

    def next_row(self, row):
        return self.leap(row, 1)

    def row_before(self, row):
        return self.leap(row, -1)

    def steps_to(self, row, other):
        return (self.place_of(other) - self.place_of(row)) % self.size

    def check_place(self, place):
        if place < 0 or place >= self.size:
            raise NoPlace("the list has no such place")
