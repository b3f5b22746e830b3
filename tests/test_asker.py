"""What is handed in stays as it was, and what is told is the asker's own."""
import unittest

from marksteps.choosing import Choosing
from marksteps.errors import RowError
from marksteps.turning import Turning


def turning_three():
    return Turning(3, 4)


def turning_none():
    return Turning(2, 0)


def turning_great():
    return Turning(10 ** 12, 200)


def choosing_some():
    return Choosing(6, 3)


def choosing_none():
    return Choosing(4, 0)


def choosing_great():
    return Choosing(200, 100)


MAKERS = (turning_three, turning_none, turning_great, choosing_some, choosing_none, choosing_great)
CHANGES = (
    None, ("turn", 0), ("turn", 1), ("turn", 3), ("turn", -1), ("turn", 900),
    ("swap", 0, 1), ("swap", 1, 0), ("swap", 0, 3), ("swap", 3, 0), ("swap", -1, 0), ("swap", 0, 900), ("swap", 2, 2),
)


def some_rows(listing):
    many = listing.many()
    return [listing.row_at(place) for place in sorted({0, 1 % many, many // 3, many // 2, many - 1})]


def wrong_rows(row):
    return [row + [0], [0] + row, [-1] * len(row) + [7], [2] + row[1:], row[:-1] + [-1], [9] * 300]


def asks(row, other):
    told = [
        ("place_of", (row,)), ("change", (row,)), ("next_row", (row,)), ("row_before", (row,)), ("leap", (row,)),
        ("leap", (row, 0)), ("leap", (row, -5)), ("steps_to", (row, other)), ("steps_to", (other, row)),
    ]
    for change in CHANGES:
        told += [("done", (row, change)), ("undone", (row, change))]
    return told


def answer(listing, name, handed):
    try:
        return getattr(listing, name)(*handed)
    except RowError as error:
        return type(error)


def spoil(told):
    if isinstance(told, list):
        for spot in range(len(told)):
            told[spot] = -77
        told.append("spoilt")
        told.reverse()


class AskerTest(unittest.TestCase):
    def each_ask(self, make):
        listing = make()
        rows = some_rows(listing)
        for row in rows + wrong_rows(rows[-1]):
            for other in (rows[0], rows[-1]):
                for name, handed in asks(list(row), list(other)):
                    yield name, handed

    def test_what_is_handed_in_stays(self):
        for make in MAKERS:
            listing = make()
            for name, handed in self.each_ask(make):
                before = [list(part) if isinstance(part, list) else part for part in handed]
                answer(listing, name, handed)
                self.assertEqual(list(handed), before, name)

    def test_told_lists_are_new(self):
        for make in MAKERS:
            listing = make()
            for name, handed in self.each_ask(make):
                first = answer(listing, name, handed)
                second = answer(listing, name, handed)
                self.assertEqual(first, second, name)
                if isinstance(first, list):
                    self.assertIsNot(first, second, name)
                    self.assertFalse(any(first is part for part in handed), name)
            self.assertIsNot(listing.row_at(0), listing.row_at(0))

    def test_what_the_asker_does_to_it_changes_no_later_answer(self):
        for make in MAKERS:
            listing = make()
            for name, handed in self.each_ask(make):
                spoil(answer(listing, name, handed))
                self.assertEqual(answer(listing, name, handed), answer(make(), name, handed), name)
            for place in sorted({0, listing.many() // 2, listing.many() - 1}):
                row = listing.row_at(place)
                spoil(row)
                self.assertEqual(listing.row_at(place), make().row_at(place))

    def test_what_was_told_stays_when_other_things_are_asked(self):
        for make in MAKERS:
            listing = make()
            kept = []
            for name, handed in self.each_ask(make):
                told = answer(listing, name, handed)
                if isinstance(told, list):
                    kept.append((told, list(told)))
            for told, copy in kept:
                self.assertEqual(told, copy)

    def test_a_row_that_was_handed_in_is_not_kept(self):
        for make in MAKERS:
            listing = make()
            for row in some_rows(make()):
                for name, handed in asks(list(row), list(row)):
                    told = answer(listing, name, handed)
                    copy = list(told) if isinstance(told, list) else told
                    spoil(handed[0])
                    self.assertEqual(told, copy, name)
                    handed[0][:] = row

    def test_lists_of_rows_do_not_hang_on_one_another(self):
        listings = [make() for make in MAKERS]
        for number, make in enumerate(MAKERS):
            for name, handed in self.each_ask(make):
                expected = answer(make(), name, handed)
                answer(listings[number - 1], name, handed)
                self.assertEqual(answer(listings[number], name, handed), expected, name)


if __name__ == "__main__":
    unittest.main()
