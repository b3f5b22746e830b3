import itertools
import unittest

from marksteps.choosing import Choosing
from marksteps.counts import choose
from marksteps.errors import NoChange, NoForm, NoPlace, NoRow
from marksteps.listing import Listing
from marksteps.turning import Turning

FAR = 10 ** 3999
SMALL = [(length, ones) for length in range(10) for ones in range(length + 1)]
GREAT = [(200, ones) for ones in (0, 1, 2, 67, 99, 100, 101, 198, 199, 200)] + [(199, 99), (199, 100), (150, 30)]


def rows_of_two_signs(length):
    rows = []
    for place in range(2 ** length):
        figures = [place >> spot & 1 for spot in range(length)] + [0]
        rows.append([(figures[spot] - figures[spot + 1]) % 2 for spot in range(length)])
    return rows


def with_ones(length, ones):
    return [row for row in rows_of_two_signs(length) if sum(row) == ones]


def rows_by_halves(length, ones):
    if length == 0:
        return [[]] if ones == 0 else []
    first = rows_by_halves(length - 1, ones)
    second = rows_by_halves(length - 1, ones - 1) if ones else []
    return [row + [0] for row in first] + [row + [1] for row in reversed(second)]


def row_by_halves(length, ones, place):
    row = []
    while length:
        first = choose(length - 1, ones)
        if place < first:
            row.insert(0, 0)
        else:
            row.insert(0, 1)
            ones -= 1
            place = choose(length - 1, ones) - 1 - (place - first)
        length -= 1
    return row


def some_places(length, ones):
    many = choose(length, ones)
    first = choose(length - 1, ones)
    places = [0, 1, 2, many - 1, many - 2, many - 3, many // 2, many // 3, 2 * many // 3, first - 1, first, first + 1]
    places += [7 ** (10 * power + 1) % many for power in range(60)]
    return sorted({place for place in places if 0 <= place < many})


def swapped(row, out, into):
    told = list(row)
    told[out] -= 1
    told[into] += 1
    return told


class NumberOfRowsTest(unittest.TestCase):
    def test_small(self):
        for length, ones in SMALL:
            rows = [row for row in itertools.product((0, 1), repeat=length) if sum(row) == ones]
            self.assertEqual(Choosing(length, ones).many(), len(rows), (length, ones))

    def test_edges(self):
        self.assertEqual(Choosing(0, 0).many(), 1)
        for length in (1, 2, 3, 7, 199, 200):
            self.assertEqual(Choosing(length, 0).many(), 1)
            self.assertEqual(Choosing(length, 1).many(), length)
            self.assertEqual(Choosing(length, length - 1).many(), length)
            self.assertEqual(Choosing(length, length).many(), 1)
        middle = 90548514656103281165404177077484163874504589675413336841320
        self.assertEqual(Choosing(200, 100).many(), middle)

    def test_as_choose_tells(self):
        for length in range(201):
            for ones in {0, 1, length // 3, length // 2, length - 1, length}:
                if 0 <= ones <= length:
                    self.assertEqual(Choosing(length, ones).many(), choose(length, ones))


class RowAtTest(unittest.TestCase):
    def test_written_rows(self):
        written = [[1, 1, 1, 0], [1, 0, 1, 1], [0, 1, 1, 1], [1, 1, 0, 1]]
        self.assertEqual([Choosing(4, 3).row_at(place) for place in range(4)], written)
        written = [[1, 0, 0], [0, 1, 0], [0, 0, 1]]
        self.assertEqual([Choosing(3, 1).row_at(place) for place in range(3)], written)
        self.assertEqual(Choosing(0, 0).row_at(0), [])
        self.assertEqual(Choosing(3, 0).row_at(0), [0, 0, 0])
        self.assertEqual(Choosing(3, 3).row_at(0), [1, 1, 1])

    def test_the_turning_list_with_the_others_left_out(self):
        for length, ones in SMALL + [(12, 5), (12, 6), (13, 2)]:
            choosing = Choosing(length, ones)
            for place, row in enumerate(with_ones(length, ones)):
                self.assertEqual(choosing.row_at(place), row, (length, ones, place))
                self.assertEqual(choosing.place_of(row), place, (length, ones, row))

    def test_held_against_the_turning_list_of_the_program(self):
        for length in range(10):
            turning = Turning(2, length)
            rows = [turning.row_at(place) for place in range(turning.many())]
            for ones in range(length + 1):
                choosing = Choosing(length, ones)
                told = [choosing.row_at(place) for place in range(choosing.many())]
                self.assertEqual(told, [row for row in rows if sum(row) == ones])

    def test_halves(self):
        for length, ones in SMALL:
            choosing = Choosing(length, ones)
            told = [choosing.row_at(place) for place in range(choosing.many())]
            self.assertEqual(told, rows_by_halves(length, ones), (length, ones))

    def test_great_lists_by_halves(self):
        for length, ones in GREAT:
            choosing = Choosing(length, ones)
            for place in some_places(length, ones):
                row = row_by_halves(length, ones, place)
                self.assertEqual(choosing.row_at(place), row, (length, ones, place))
                self.assertEqual(choosing.place_of(row), place, (length, ones, place))

    def test_great_lists_stand_in_the_order_of_the_turning_list(self):
        turning = Turning(2, 200)
        for ones in (1, 2, 100, 199):
            choosing = Choosing(200, ones)
            places = some_places(200, ones)
            held = [turning.place_of(choosing.row_at(place)) for place in places]
            self.assertEqual(held, sorted(set(held)))

    def test_written_rows_of_the_longest(self):
        for ones in (1, 2, 100, 199):
            choosing = Choosing(200, ones)
            last = [1] * (ones - 1) + [0] * (200 - ones) + [1]
            self.assertEqual(choosing.row_at(0), [1] * ones + [0] * (200 - ones))
            self.assertEqual(choosing.row_at(choosing.many() - 1), last)
            self.assertEqual(choosing.place_of(last), choosing.many() - 1)
        for spot in range(200):
            row = [0] * 200
            row[spot] = 1
            self.assertEqual(Choosing(200, 1).row_at(spot), row)
        self.assertEqual(Choosing(200, 0).row_at(0), [0] * 200)
        self.assertEqual(Choosing(200, 200).row_at(0), [1] * 200)

    def test_rows_that_were_not_reckoned_from_a_place(self):
        for row in ([0] * 100 + [1] * 100, [0, 1] * 100, [1, 0] * 100, [1, 1, 0, 0] * 50, [0, 0, 0, 1] * 50):
            choosing = Choosing(200, sum(row))
            place = choosing.place_of(row)
            self.assertEqual(row_by_halves(200, sum(row), place), row)
            self.assertEqual(choosing.row_at(place), row)


class ChangeTest(unittest.TestCase):
    def check_change(self, choosing, place):
        row = choosing.row_at(place)
        change = choosing.change(row)
        following = choosing.row_at((place + 1) % choosing.many())
        self.assertIs(type(change), tuple)
        self.assertEqual([type(part) for part in change], [str, int, int])
        name, out, into = change
        self.assertEqual(name, "swap")
        self.assertIn(out, range(len(row)))
        self.assertIn(into, range(len(row)))
        self.assertEqual((row[out], row[into]), (1, 0))
        self.assertEqual(swapped(row, out, into), following)
        self.assertEqual(choosing.next_row(row), following)
        self.assertEqual(choosing.row_before(following), row)
        self.assertEqual(choosing.done(row, change), following)
        self.assertEqual(choosing.undone(following, change), row)

    def test_each_row_of_small_lists(self):
        for length, ones in SMALL:
            if 0 < ones < length:
                for place in range(choose(length, ones)):
                    self.check_change(Choosing(length, ones), place)

    def test_some_rows_of_great_lists(self):
        for length, ones in GREAT:
            if 0 < ones < length:
                for place in some_places(length, ones):
                    self.check_change(Choosing(length, ones), place)

    def test_written_changes(self):
        choosing = Choosing(4, 3)
        changes = [choosing.change(choosing.row_at(place)) for place in range(4)]
        self.assertEqual(changes, [("swap", 1, 3), ("swap", 0, 1), ("swap", 2, 0), ("swap", 3, 2)])
        self.assertEqual(Choosing(2, 1).change([1, 0]), ("swap", 0, 1))
        self.assertEqual(Choosing(2, 1).change([0, 1]), ("swap", 1, 0))
        self.assertEqual(Choosing(200, 1).change([0] * 199 + [1]), ("swap", 199, 0))

    def test_lists_of_one_row(self):
        for length in (0, 1, 2, 5, 199, 200):
            for ones in {0, length}:
                choosing = Choosing(length, ones)
                row = [1 if ones else 0] * length
                self.assertEqual(choosing.row_at(0), row)
                self.assertEqual(choosing.place_of(row), 0)
                self.assertIsNone(choosing.change(row))
                self.assertEqual(choosing.next_row(row), row)
                self.assertEqual(choosing.row_before(row), row)


class DoneTest(unittest.TestCase):
    def test_each_swap_of_small_lists(self):
        for length, ones in SMALL:
            if length > 7:
                continue
            choosing = Choosing(length, ones)
            for row in with_ones(length, ones):
                for out, into in itertools.product(range(-1, length + 1), repeat=2):
                    self.check_swap(choosing, row, out, into)

    def check_swap(self, choosing, row, out, into):
        change = ("swap", out, into)
        inside = 0 <= out < len(row) and 0 <= into < len(row)
        if inside and row[out] == 1 and row[into] == 0:
            after = swapped(row, out, into)
            self.assertEqual(choosing.done(row, change), after)
            self.assertEqual(choosing.undone(after, change), row)
        else:
            with self.assertRaises(NoChange):
                choosing.done(row, change)
        if not (inside and row[out] == 0 and row[into] == 1):
            with self.assertRaises(NoChange):
                choosing.undone(row, change)

    def test_written_swaps(self):
        choosing = Choosing(4, 2)
        self.assertEqual(choosing.done([1, 0, 1, 0], ("swap", 0, 3)), [0, 0, 1, 1])
        self.assertEqual(choosing.done([1, 0, 1, 0], ("swap", 2, 1)), [1, 1, 0, 0])
        self.assertEqual(choosing.undone([1, 0, 1, 0], ("swap", 1, 2)), [1, 1, 0, 0])
        self.assertEqual(choosing.undone([1, 0, 1, 0], ("swap", 3, 0)), [0, 0, 1, 1])

    def test_the_longest(self):
        choosing = Choosing(200, 100)
        row = [1] * 100 + [0] * 100
        after = [0] + [1] * 99 + [0] * 99 + [1]
        self.assertEqual(choosing.done(row, ("swap", 0, 199)), after)
        self.assertEqual(choosing.undone(row, ("swap", 199, 0)), after)
        self.assertEqual(choosing.undone(after, ("swap", 0, 199)), row)
        self.assertEqual(choosing.done(after, ("swap", 199, 0)), row)

    def test_none_does_nothing(self):
        for length, ones in SMALL:
            choosing = Choosing(length, ones)
            for row in with_ones(length, ones):
                self.assertEqual(choosing.done(row, None), row)
                self.assertEqual(choosing.undone(row, None), row)


class RefusalTest(unittest.TestCase):
    def test_length_out_of_bounds(self):
        for length in (-FAR, -200, -2, -1, 201, 202, 300, 10 ** 6, FAR):
            for ones in (-FAR, -1, 0, 1, 100, 200, 201, length, length - 1, FAR):
                with self.assertRaises(NoForm):
                    Choosing(length, ones)

    def test_ones_out_of_bounds(self):
        for length in (0, 1, 2, 5, 100, 199, 200):
            for ones in (-FAR, -length - 1, -2, -1, length + 1, length + 2, 201, 300, FAR):
                with self.assertRaises(NoForm):
                    Choosing(length, ones)

    def test_bounds_are_in(self):
        for length in (0, 1, 2, 199, 200):
            for ones in {0, length // 2, length}:
                self.assertEqual(Choosing(length, ones).row_at(0), [1] * ones + [0] * (length - ones))

    def test_places(self):
        for length, ones in SMALL + GREAT:
            choosing = Choosing(length, ones)
            many = choose(length, ones)
            for place in (-FAR, -many - 1, -many, -2, -1, many, many + 1, 2 * many, FAR):
                with self.assertRaises(NoPlace):
                    choosing.row_at(place)

    def check_no_row(self, choosing, row):
        for asked in (choosing.place_of, choosing.change):
            with self.assertRaises(NoRow):
                asked(row)
        changes = [None] + [("swap", out, into) for out in (-1, 0, 1) for into in (0, 1, 2, 200)]
        for change in changes + [("swap", FAR, -FAR), ("turn", 0), ("turn", 1), ("turn", -1), ("turn", FAR)]:
            for asked in (choosing.done, choosing.undone):
                with self.assertRaises(NoRow):
                    asked(row, change)

    def test_rows_of_another_length(self):
        for length, ones in [(0, 0), (1, 0), (1, 1), (4, 0), (4, 2), (4, 4), (200, 0), (200, 100), (200, 200)]:
            choosing = Choosing(length, ones)
            for wrong in {0, length - 1, length + 1, length + 2, 300} - {length, -1}:
                self.check_no_row(choosing, ([1] * ones + [0] * wrong)[:wrong])
                self.check_no_row(choosing, ([0] * (wrong - ones) + [1] * ones)[:wrong])
                self.check_no_row(choosing, [0] * wrong)
                self.check_no_row(choosing, [1] * wrong)

    def test_marks_that_no_row_has(self):
        choosing = Choosing(4, 2)
        for mark in (-FAR, -2, -1, 2, 3, FAR):
            for spot in range(4):
                for others in itertools.product((0, 1), repeat=3):
                    row = list(others)
                    row.insert(spot, mark)
                    self.check_no_row(choosing, row)

    def test_other_marks_where_the_sum_is_as_told(self):
        self.check_no_row(Choosing(4, 2), [2, 0, 0, 0])
        self.check_no_row(Choosing(4, 2), [0, 0, 0, 2])
        self.check_no_row(Choosing(4, 2), [1, 1, 1, -1])
        self.check_no_row(Choosing(4, 2), [-1, 3, 0, 0])
        self.check_no_row(Choosing(4, 2), [FAR, 2 - FAR, 0, 0])
        self.check_no_row(Choosing(4, 2), [1, 2, -1, 0])
        self.check_no_row(Choosing(4, 3), [1, 2, 0, 0])
        self.check_no_row(Choosing(2, 0), [1, -1])
        self.check_no_row(Choosing(2, 2), [2, 0])
        self.check_no_row(Choosing(200, 100), [2] * 50 + [0] * 150)
        self.check_no_row(Choosing(200, 100), [2] + [1] * 98 + [0] * 101)

    def test_another_number_of_ones(self):
        for length in range(1, 7):
            for row in rows_of_two_signs(length):
                for ones in range(length + 1):
                    if sum(row) != ones:
                        self.check_no_row(Choosing(length, ones), row)
        for wrong in (0, 1, 99, 101, 199, 200):
            self.check_no_row(Choosing(200, 100), [1] * wrong + [0] * (200 - wrong))
            self.check_no_row(Choosing(200, 100), [0] * (200 - wrong) + [1] * wrong)

    def check_no_change(self, choosing, row, change):
        for asked in (choosing.done, choosing.undone):
            with self.assertRaises(NoChange):
                asked(row, change)

    def test_no_turn_fits(self):
        for length, ones in SMALL[:20]:
            choosing = Choosing(length, ones)
            for row in with_ones(length, ones):
                for spot in (-FAR, -1, 0, 1, length - 1, length, FAR):
                    self.check_no_change(choosing, row, ("turn", spot))

    def test_spots_out_of_the_row(self):
        choosing = Choosing(4, 2)
        for row in with_ones(4, 2):
            for wrong in (-FAR, -5, -4, -3, -2, -1, 4, 5, 200, FAR):
                self.check_no_change(choosing, row, ("swap", wrong, wrong))
                for spot in range(4):
                    self.check_no_change(choosing, row, ("swap", wrong, spot))
                    self.check_no_change(choosing, row, ("swap", spot, wrong))

    def test_one_spot_with_itself(self):
        for length, ones in SMALL:
            for row in with_ones(length, ones):
                for spot in range(length):
                    self.check_no_change(Choosing(length, ones), row, ("swap", spot, spot))

    def test_marks_that_do_not_fit(self):
        choosing = Choosing(4, 2)
        row = [1, 0, 1, 0]
        for change in (("swap", 0, 2), ("swap", 1, 3), ("swap", 2, 0), ("swap", 3, 1)):
            self.check_no_change(choosing, row, change)
        for change in (("swap", 1, 0), ("swap", 3, 2), ("swap", 1, 2), ("swap", 3, 0)):
            with self.assertRaises(NoChange):
                choosing.done(row, change)
        for change in (("swap", 0, 1), ("swap", 2, 3), ("swap", 2, 1), ("swap", 0, 3)):
            with self.assertRaises(NoChange):
                choosing.undone(row, change)

    def test_nothing_fits_a_list_of_one_row(self):
        for length, ones in [(0, 0), (1, 0), (1, 1), (2, 0), (2, 2)]:
            choosing = Choosing(length, ones)
            row = [1] * ones + [0] * (length - ones)
            for change in [("swap", out, into) for out in range(-1, 3) for into in range(-1, 3)]:
                self.check_no_change(choosing, row, change)
            self.assertEqual(choosing.done(row, None), row)
            self.assertEqual(choosing.undone(row, None), row)


class InterfaceTest(unittest.TestCase):
    def test_the_class(self):
        self.assertEqual(Choosing.__bases__, (Listing,))
        for name in ("row_at", "place_of", "change", "done", "undone"):
            self.assertIn(name, vars(Choosing))

    def test_arguments_by_name(self):
        choosing = Choosing(length=4, ones=3)
        self.assertEqual(choosing.many(), 4)
        self.assertEqual(choosing.row_at(place=1), [1, 0, 1, 1])
        self.assertEqual(choosing.place_of(row=[1, 0, 1, 1]), 1)
        self.assertEqual(choosing.change(row=[1, 0, 1, 1]), ("swap", 0, 1))
        self.assertEqual(choosing.done(row=[1, 0, 1, 1], change=("swap", 0, 1)), [0, 1, 1, 1])
        self.assertEqual(choosing.undone(row=[1, 0, 1, 1], change=("swap", 1, 3)), [1, 1, 1, 0])


if __name__ == "__main__":
    unittest.main()
