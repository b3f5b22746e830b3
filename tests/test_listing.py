import time
import unittest

from marksteps.choosing import Choosing
from marksteps.errors import NoRow
from marksteps.listing import Listing
from marksteps.turning import Turning

FAR = 10 ** 3999
SMALL = (
    [Turning(2, length) for length in range(6)] + [Turning(3, length) for length in range(4)] + [Turning(7, 2)]
    + [Choosing(length, ones) for length in range(7) for ones in range(length + 1)]
)
GREAT = [Turning(2, 200), Turning(10 ** 12, 200), Choosing(200, 1), Choosing(200, 100), Choosing(200, 199)]
# Each with a row that it has and rows that it has not.
WITH_WRONG_ROWS = [
    (Turning(3, 2), [2, 1], ([], [2], [2, 1, 0], [3, 0], [0, 3], [-1, 0], [0, -1], [FAR, 0], [0] * 300)),
    (Turning(2, 0), [], ([0], [1], [-1], [0] * 300)),
    (Turning(10 ** 12, 200), [5] * 200, ([], [5] * 199, [5] * 201, [5] * 199 + [10 ** 12], [-1] + [5] * 199)),
    (Choosing(3, 2), [1, 0, 1], ([], [1, 1], [1, 1, 0, 0], [2, 0, 0], [1, 0, 0], [1, 1, 1], [1, 2, -1])),
    (Choosing(0, 0), [], ([0], [1], [-1], [0] * 300)),
    (Choosing(2, 0), [0, 0], ([], [0], [0, 0, 0], [1, 0], [1, -1], [1, 1])),
    (Choosing(200, 100), [1, 0] * 100, ([1, 0] * 99 + [1], [1, 0] * 101, [1] * 200, [2, 0] * 50 + [0, 0] * 50)),
]


def all_rows(listing):
    return [listing.row_at(place) for place in range(listing.many())]


class LeapTest(unittest.TestCase):
    def test_small_lists(self):
        for listing in SMALL:
            rows = all_rows(listing)
            many = len(rows)
            leaps = [0, 1, 2, 3, -1, -2, -3, many - 1, many, many + 1, -many, 1 - many, -many - 1, 5 * many + 2]
            for place, row in enumerate(rows):
                for steps in leaps + [7 - 1000 * many, FAR, -FAR, FAR + 1]:
                    self.assertEqual(listing.leap(row, steps), rows[(place + steps) % many])

    def test_without_steps_told(self):
        for listing in SMALL:
            rows = all_rows(listing)
            for place, row in enumerate(rows):
                self.assertEqual(listing.leap(row), rows[(place + 1) % len(rows)])

    def test_written_leaps(self):
        turning = Turning(3, 2)
        self.assertEqual(turning.leap([1, 0]), [2, 0])
        self.assertEqual(turning.leap([1, 0], 2), [2, 1])
        self.assertEqual(turning.leap([1, 0], 0), [1, 0])
        self.assertEqual(turning.leap([1, 0], -2), [0, 2])
        self.assertEqual(turning.leap([1, 0], 9 * 10 ** 50 - 1), [0, 0])
        choosing = Choosing(4, 3)
        self.assertEqual(choosing.leap([1, 0, 1, 1]), [0, 1, 1, 1])
        self.assertEqual(choosing.leap([1, 0, 1, 1], 3), [1, 1, 1, 0])
        self.assertEqual(choosing.leap([1, 0, 1, 1], 0), [1, 0, 1, 1])
        self.assertEqual(choosing.leap([1, 0, 1, 1], -2), [1, 1, 0, 1])
        self.assertEqual(choosing.leap([1, 0, 1, 1], 4 * 10 ** 50 + 2), [1, 1, 0, 1])

    def test_great_lists(self):
        for listing in GREAT:
            many = listing.many()
            for place in (0, 1, many // 2, many // 3, many - 1):
                row = listing.row_at(place)
                for steps in (0, 1, -1, many, many - 1, -many, many // 3, -many // 7, many * 10 ** 9 + 5, FAR, -FAR):
                    leapt = listing.row_at((place + steps) % many)
                    self.assertEqual(listing.leap(row, steps), leapt)
                    self.assertEqual(listing.steps_to(row, leapt), steps % many)


class NextTest(unittest.TestCase):
    def test_small_lists(self):
        for listing in SMALL:
            rows = all_rows(listing)
            for place, row in enumerate(rows):
                self.assertEqual(listing.next_row(row), rows[(place + 1) % len(rows)])
                self.assertEqual(listing.row_before(row), rows[place - 1])

    def test_round_the_ring(self):
        for listing in SMALL:
            row = listing.row_at(0)
            told = []
            for _ in range(listing.many()):
                told.append(row)
                row = listing.next_row(row)
            self.assertEqual(told, all_rows(listing))
            self.assertEqual(row, listing.row_at(0))

    def test_the_changes_lead_round_the_ring(self):
        for listing in SMALL:
            row = listing.row_at(0)
            for place in range(listing.many()):
                self.assertEqual(row, listing.row_at(place))
                row = listing.done(row, listing.change(row))
            self.assertEqual(row, listing.row_at(0))

    def test_great_lists(self):
        for listing in GREAT:
            first = listing.row_at(0)
            last = listing.row_at(listing.many() - 1)
            self.assertEqual(listing.next_row(last), first)
            self.assertEqual(listing.row_before(first), last)
            self.assertEqual(listing.next_row(first), listing.row_at(1))
            self.assertEqual(listing.row_before(last), listing.row_at(listing.many() - 2))


class StepsTest(unittest.TestCase):
    def test_each_row_to_each_other(self):
        for listing in SMALL:
            rows = all_rows(listing)
            for place, row in enumerate(rows):
                for goal, other in enumerate(rows):
                    least = goal - place if goal >= place else goal - place + len(rows)
                    self.assertEqual(listing.steps_to(row, other), least)

    def test_to_itself_the_next_and_the_one_before(self):
        for listing in SMALL + GREAT:
            for place in (0, listing.many() // 2, listing.many() - 1):
                row = listing.row_at(place)
                self.assertEqual(listing.steps_to(row, row), 0)
                self.assertEqual(listing.steps_to(row, list(row)), 0)
                self.assertEqual(listing.steps_to(row, listing.next_row(row)), 1 % listing.many())
                self.assertEqual(listing.steps_to(row, listing.row_before(row)), listing.many() - 1)


class RefusalTest(unittest.TestCase):
    def test_rows_that_are_none(self):
        for listing, row, wrong_rows in WITH_WRONG_ROWS:
            self.assertEqual(listing.leap(row, 0), row)
            for wrong in wrong_rows:
                for asked in (listing.next_row, listing.row_before, listing.leap):
                    with self.assertRaises(NoRow):
                        asked(wrong)
                for steps in (0, 1, -1, listing.many(), FAR):
                    with self.assertRaises(NoRow):
                        listing.leap(wrong, steps)
                for one, other in ((row, wrong), (wrong, row), (wrong, wrong)):
                    with self.assertRaises(NoRow):
                        listing.steps_to(one, other)


class KindsTest(unittest.TestCase):
    def check_row(self, row):
        self.assertIs(type(row), list)
        self.assertEqual({type(mark) for mark in row} - {int}, set())

    def test_rows_are_lists_of_whole_numbers(self):
        for listing in SMALL + GREAT:
            for place in {0, listing.many() // 3, listing.many() - 1}:
                row = listing.row_at(place)
                change = listing.change(row)
                self.check_row(row)
                self.check_row(listing.leap(row, 3))
                self.check_row(listing.leap(row, 0))
                self.check_row(listing.next_row(row))
                self.check_row(listing.row_before(row))
                self.check_row(listing.done(row, change))
                self.check_row(listing.undone(listing.next_row(row), change))
                self.check_row(listing.done(row, None))
                self.check_row(listing.undone(row, None))

    def test_numbers(self):
        for listing in SMALL + GREAT:
            row = listing.row_at(listing.many() // 2)
            self.assertIs(type(listing.many()), int)
            self.assertIs(type(listing.place_of(row)), int)
            self.assertIs(type(listing.steps_to(row, row)), int)
            self.assertIs(type(listing.steps_to(row, listing.next_row(row))), int)

    def test_both_kinds_have_the_methods_from_the_listing(self):
        for name in ("many", "leap", "next_row", "row_before", "steps_to"):
            for kind in (Turning, Choosing):
                self.assertIs(getattr(kind, name), vars(Listing)[name])

    def test_arguments_by_name(self):
        for listing in (Turning(2, 3), Choosing(4, 2)):
            row = listing.row_at(2)
            self.assertEqual(listing.leap(row=row, steps=2), listing.row_at(4))
            self.assertEqual(listing.next_row(row=row), listing.row_at(3))
            self.assertEqual(listing.row_before(row=row), listing.row_at(1))
            self.assertEqual(listing.steps_to(row=row, other=listing.row_at(5)), 3)


class AtOnceTest(unittest.TestCase):
    # Far more time than is needed, and far less than a walk through the rows would take.
    def test_the_greatest_lists(self):
        begun = time.process_time()
        for listing in (Turning(10 ** 12, 200), Turning(2, 200), Choosing(200, 100)):
            row = listing.row_at(listing.many() // 3)
            start = row
            for _ in range(100):
                row = listing.done(row, listing.change(row))
            self.assertEqual(listing.steps_to(start, row), 100)
            self.assertEqual(listing.leap(row, -100), start)
            self.assertEqual(listing.steps_to(row, start), listing.many() - 100)
        self.assertLess(time.process_time() - begun, 20)


if __name__ == "__main__":
    unittest.main()
