import itertools
import unittest

from marksteps.errors import NoChange, NoForm, NoPlace, NoRow
from marksteps.listing import Listing
from marksteps.turning import Turning

MOST_SIGNS = 10 ** 12
FAR = 10 ** 3999
SMALL = (
    [(2, length) for length in range(9)] + [(3, length) for length in range(6)]
    + [(4, length) for length in range(5)] + [(5, length) for length in range(4)] + [(10, 3), (17, 2), (300, 1)]
)
GREAT = [(2, 200), (3, 200), (10, 199), (MOST_SIGNS, 200), (MOST_SIGNS - 1, 200), (MOST_SIGNS, 2), (MOST_SIGNS, 1)]
WRONG_SPOTS = (-FAR, -201, -200, -4, -3, -2, -1, 3, 4, 200, FAR)


def row_by_words(signs, length, place):
    figures = [place // signs ** power % signs for power in range(length)] + [0]
    row = []
    for spot in range(length):
        mark = figures[spot] - figures[spot + 1]
        row.append(mark + signs if mark < 0 else mark)
    return row


def all_rows(signs, length):
    return [row_by_words(signs, length, place) for place in range(signs ** length)]


def some_places(signs, length):
    many = signs ** length
    places = [0, 1, 2, many - 1, many - 2, many // 2, many // 2 - 1, many // 3, 2 * many // 3, many * 12345 // 99991]
    for power in (1, 2, 3, 50, 100, length - 1, length):
        places += [signs ** power - 1, signs ** power, signs ** power + 1, many - signs ** power]
    places += [7 ** (30 * power + 1) % many for power in range(40)]
    return sorted({place for place in places if 0 <= place < many})


def turned(row, spot, signs):
    told = list(row)
    told[spot] = 0 if row[spot] == signs - 1 else row[spot] + 1
    return told


class NumberOfRowsTest(unittest.TestCase):
    def test_small(self):
        for signs, length in SMALL:
            rows = list(itertools.product(range(signs), repeat=length))
            self.assertEqual(Turning(signs, length).many(), len(rows), (signs, length))

    def test_least_and_greatest(self):
        for signs in (2, 3, MOST_SIGNS - 1, MOST_SIGNS):
            self.assertEqual(Turning(signs, 0).many(), 1)
            self.assertEqual(Turning(signs, 1).many(), signs)
            self.assertEqual(Turning(signs, 2).many(), signs * signs)
            self.assertEqual(Turning(signs, 199).many() * signs, Turning(signs, 200).many())
        self.assertEqual(Turning(2, 200).many(), 1 << 200)
        self.assertEqual(Turning(MOST_SIGNS, 200).many(), int("1" + "0" * 2400))


class RowAtTest(unittest.TestCase):
    def test_written_rows(self):
        self.assertEqual([Turning(2, 2).row_at(place) for place in range(4)], [[0, 0], [1, 0], [1, 1], [0, 1]])
        three = [[0, 0], [1, 0], [2, 0], [2, 1], [0, 1], [1, 1], [1, 2], [2, 2], [0, 2]]
        self.assertEqual([Turning(3, 2).row_at(place) for place in range(9)], three)

    def test_small_lists_word_by_word(self):
        for signs, length in SMALL:
            turning = Turning(signs, length)
            for place, row in enumerate(all_rows(signs, length)):
                self.assertEqual(turning.row_at(place), row, (signs, length, place))
                self.assertEqual(turning.place_of(row), place, (signs, length, row))

    def test_all_rows_are_there_once(self):
        for signs, length in SMALL:
            turning = Turning(signs, length)
            told = [tuple(turning.row_at(place)) for place in range(turning.many())]
            self.assertEqual(sorted(told), list(itertools.product(range(signs), repeat=length)))

    def test_great_lists_word_by_word(self):
        for signs, length in GREAT:
            turning = Turning(signs, length)
            for place in some_places(signs, length):
                row = row_by_words(signs, length, place)
                self.assertEqual(turning.row_at(place), row, (signs, length, place))
                self.assertEqual(turning.place_of(row), place, (signs, length, place))

    def test_written_rows_of_the_greatest_list(self):
        turning = Turning(MOST_SIGNS, 200)
        last = MOST_SIGNS - 1
        written = {
            0: [0] * 200,
            1: [1] + [0] * 199,
            last: [last] + [0] * 199,
            MOST_SIGNS: [last, 1] + [0] * 198,
            MOST_SIGNS + 1: [0, 1] + [0] * 198,
            MOST_SIGNS ** 199: [0] * 198 + [last, 1],
            MOST_SIGNS ** 200 - 1: [0] * 199 + [last],
        }
        for place, row in written.items():
            self.assertEqual(turning.row_at(place), row)
            self.assertEqual(turning.place_of(row), place)

    def test_rows_that_were_not_reckoned_from_a_place(self):
        for signs, length in GREAT:
            turning = Turning(signs, length)
            last = signs - 1
            for marks in ([last], [1], [0, last], [last, 0], [1, 0, last], [last // 2, 1]):
                row = (marks * length)[:length]
                self.assertEqual(row_by_words(signs, length, turning.place_of(row)), row)


class ChangeTest(unittest.TestCase):
    def check_change(self, turning, signs, place):
        row = turning.row_at(place)
        change = turning.change(row)
        following = turning.row_at((place + 1) % turning.many())
        self.assertIs(type(change), tuple)
        self.assertEqual([type(part) for part in change], [str, int])
        self.assertEqual(change[0], "turn")
        self.assertIn(change[1], range(len(row)))
        self.assertEqual(turned(row, change[1], signs), following, (signs, place))
        self.assertEqual(turning.next_row(row), following)
        self.assertEqual(turning.row_before(following), row)
        self.assertEqual(turning.done(row, change), following)
        self.assertEqual(turning.undone(following, change), row)

    def test_each_row_of_small_lists(self):
        for signs, length in SMALL:
            turning = Turning(signs, length)
            for place in range(turning.many() if length else 0):
                self.check_change(turning, signs, place)

    def test_some_rows_of_great_lists(self):
        for signs, length in GREAT:
            for place in some_places(signs, length):
                self.check_change(Turning(signs, length), signs, place)

    def test_written_changes(self):
        spots = [Turning(2, 3).change(Turning(2, 3).row_at(place)) for place in range(8)]
        self.assertEqual(spots, [("turn", spot) for spot in (0, 1, 0, 2, 0, 1, 0, 2)])
        spots = [Turning(3, 2).change(Turning(3, 2).row_at(place)) for place in range(9)]
        self.assertEqual(spots, [("turn", spot) for spot in (0, 0, 1, 0, 0, 1, 0, 0, 1)])
        self.assertEqual(Turning(2, 1).change([1]), ("turn", 0))
        self.assertEqual(Turning(MOST_SIGNS, 200).change([0] * 199 + [MOST_SIGNS - 1]), ("turn", 199))

    def test_a_list_of_one_row(self):
        for signs in (2, 3, MOST_SIGNS):
            turning = Turning(signs, 0)
            self.assertEqual(turning.row_at(0), [])
            self.assertEqual(turning.place_of([]), 0)
            self.assertIsNone(turning.change([]))
            self.assertEqual(turning.next_row([]), [])
            self.assertEqual(turning.row_before([]), [])


class DoneTest(unittest.TestCase):
    def test_each_turn_of_small_lists(self):
        for signs, length in SMALL:
            turning = Turning(signs, length)
            for row in all_rows(signs, length):
                for spot in range(length):
                    after = turned(row, spot, signs)
                    self.assertEqual(turning.done(row, ("turn", spot)), after)
                    self.assertEqual(turning.undone(after, ("turn", spot)), row)

    def test_written_turns(self):
        turning = Turning(5, 3)
        self.assertEqual(turning.done([4, 0, 2], ("turn", 0)), [0, 0, 2])
        self.assertEqual(turning.done([4, 0, 2], ("turn", 1)), [4, 1, 2])
        self.assertEqual(turning.done([4, 0, 2], ("turn", 2)), [4, 0, 3])
        self.assertEqual(turning.undone([4, 0, 2], ("turn", 0)), [3, 0, 2])
        self.assertEqual(turning.undone([4, 0, 2], ("turn", 1)), [4, 4, 2])
        self.assertEqual(turning.undone([4, 0, 2], ("turn", 2)), [4, 0, 1])

    def test_the_greatest_list(self):
        turning = Turning(MOST_SIGNS, 200)
        row = [MOST_SIGNS - 1] + [5] * 198 + [0]
        self.assertEqual(turning.done(row, ("turn", 0)), [0] + [5] * 198 + [0])
        self.assertEqual(turning.done(row, ("turn", 199)), [MOST_SIGNS - 1] + [5] * 198 + [1])
        self.assertEqual(turning.undone(row, ("turn", 0)), [MOST_SIGNS - 2] + [5] * 198 + [0])
        self.assertEqual(turning.undone(row, ("turn", 199)), [MOST_SIGNS - 1] + [5] * 198 + [MOST_SIGNS - 1])

    def test_none_does_nothing(self):
        for signs, length in SMALL:
            turning = Turning(signs, length)
            for row in all_rows(signs, length):
                self.assertEqual(turning.done(row, None), row)
                self.assertEqual(turning.undone(row, None), row)


class RefusalTest(unittest.TestCase):
    def test_signs_out_of_bounds(self):
        for signs in (-FAR, -MOST_SIGNS, -2, -1, 0, 1, MOST_SIGNS + 1, MOST_SIGNS * 2, FAR):
            for length in (-FAR, -1, 0, 1, 2, 200, 201, FAR):
                with self.assertRaises(NoForm):
                    Turning(signs, length)

    def test_length_out_of_bounds(self):
        for length in (-FAR, -200, -2, -1, 201, 202, 300, 10 ** 6, FAR):
            for signs in (1, 2, 3, MOST_SIGNS, MOST_SIGNS + 1):
                with self.assertRaises(NoForm):
                    Turning(signs, length)

    def test_bounds_are_in(self):
        for signs in (2, MOST_SIGNS):
            for length in (0, 1, 200):
                self.assertEqual(Turning(signs, length).row_at(0), [0] * length)

    def test_places(self):
        for signs, length in SMALL + GREAT:
            turning = Turning(signs, length)
            many = signs ** length
            for place in (-FAR, -many - 1, -many, -2, -1, many, many + 1, 2 * many, FAR):
                with self.assertRaises(NoPlace):
                    turning.row_at(place)

    def check_no_row(self, turning, row):
        for asked in (turning.place_of, turning.change):
            with self.assertRaises(NoRow):
                asked(row)
        changes = [None] + [("turn", spot) for spot in (-FAR, -1, 0, 1, 2, 199, 200, FAR)]
        for change in changes + [("swap", 0, 1), ("swap", 1, 0), ("swap", -1, 5), ("swap", 0, 0)]:
            for asked in (turning.done, turning.undone):
                with self.assertRaises(NoRow):
                    asked(row, change)

    def test_rows_of_another_length(self):
        for signs, length in SMALL + GREAT:
            turning = Turning(signs, length)
            for wrong in {0, length - 1, length + 1, length + 2, 300} - {length, -1}:
                for mark in (0, 1):
                    self.check_no_row(turning, [mark] * wrong)

    def test_marks_that_no_row_has(self):
        for signs, length in [(2, 1), (2, 3), (3, 3), (5, 2), (MOST_SIGNS, 1), (MOST_SIGNS, 200)]:
            turning = Turning(signs, length)
            for mark in (-FAR, -signs, -2, -1, signs, signs + 1, 2 * signs, FAR):
                for spot in {0, length // 2, length - 1}:
                    for other in (0, signs - 1):
                        row = [other] * length
                        row[spot] = mark
                        self.check_no_row(turning, row)

    def test_changes_that_do_not_fit(self):
        turning = Turning(3, 3)
        changes = [("turn", spot) for spot in WRONG_SPOTS]
        changes += [("swap", out, into) for out in range(-1, 4) for into in range(-1, 4)]
        changes += [("swap", FAR, 0), ("swap", 0, -FAR)]
        for row in all_rows(3, 3):
            for change in changes:
                for asked in (turning.done, turning.undone):
                    with self.assertRaises(NoChange):
                        asked(row, change)

    def test_turns_at_the_edges(self):
        for signs, length in SMALL + GREAT:
            turning = Turning(signs, length)
            for spot in (-length - 1, -length, -1, length, length + 1, FAR):
                if not 0 <= spot < length:
                    for asked in (turning.done, turning.undone):
                        with self.assertRaises(NoChange):
                            asked([0] * length, ("turn", spot))

    def test_no_swap_fits_a_list_of_two_signs(self):
        for asked in (Turning(2, 2).done, Turning(2, 2).undone):
            for row in all_rows(2, 2):
                for change in (("swap", 0, 1), ("swap", 1, 0)):
                    with self.assertRaises(NoChange):
                        asked(row, change)

    def test_nothing_fits_the_empty_row(self):
        for asked in (Turning(2, 0).done, Turning(2, 0).undone):
            for change in (("turn", 0), ("turn", -1), ("swap", 0, 0), ("swap", 0, 1)):
                with self.assertRaises(NoChange):
                    asked([], change)
            self.assertEqual(asked([], None), [])


class InterfaceTest(unittest.TestCase):
    def test_the_class(self):
        self.assertEqual(Turning.__bases__, (Listing,))
        for name in ("row_at", "place_of", "change", "done", "undone"):
            self.assertIn(name, vars(Turning))

    def test_arguments_by_name(self):
        turning = Turning(signs=3, length=2)
        self.assertEqual(turning.many(), 9)
        self.assertEqual(turning.row_at(place=3), [2, 1])
        self.assertEqual(turning.place_of(row=[2, 1]), 3)
        self.assertEqual(turning.change(row=[2, 0]), ("turn", 1))
        self.assertEqual(turning.done(row=[2, 0], change=("turn", 1)), [2, 1])
        self.assertEqual(turning.undone(row=[2, 0], change=("turn", 1)), [2, 2])


if __name__ == "__main__":
    unittest.main()
