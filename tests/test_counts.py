import itertools
import unittest

from marksteps.counts import choose

LONGEST = 200
PAIRS = [(length, ones) for length in range(LONGEST + 1) for ones in range(LONGEST + 1)]
MIDDLE_OF_200 = 90548514656103281165404177077484163874504589675413336841320


def counted_one_by_one(length, ones):
    return sum(1 for row in itertools.product((0, 1), repeat=length) if sum(row) == ones)


class OrdinaryTest(unittest.TestCase):
    def test_small_lengths_against_a_count_one_by_one(self):
        for length in range(13):
            for ones in range(length + 3):
                with self.subTest(length=length, ones=ones):
                    self.assertEqual(choose(length, ones), counted_one_by_one(length, ones))

    def test_the_rows_told_in_the_document(self):
        self.assertEqual(choose(4, 3), 4)

    def test_some_written_counts(self):
        self.assertEqual(choose(10, 3), 120)
        self.assertEqual(choose(10, 7), 120)
        self.assertEqual(choose(52, 5), 2598960)
        self.assertEqual(choose(49, 6), 13983816)


class EdgesTest(unittest.TestCase):
    def test_length_0(self):
        self.assertEqual(choose(0, 0), 1)
        for ones in range(1, LONGEST + 1):
            self.assertEqual(choose(0, ones), 0)

    def test_no_ones(self):
        for length in range(LONGEST + 1):
            self.assertEqual(choose(length, 0), 1)

    def test_as_many_ones_as_the_length(self):
        for length in range(LONGEST + 1):
            self.assertEqual(choose(length, length), 1)

    def test_one_less_than_the_length(self):
        for length in range(1, LONGEST + 1):
            self.assertEqual(choose(length, length - 1), length)

    def test_more_ones_than_the_length(self):
        for length in range(LONGEST):
            self.assertEqual(choose(length, length + 1), 0)
            self.assertEqual(choose(length, LONGEST), 0)

    def test_the_longest(self):
        self.assertEqual(choose(200, 0), 1)
        self.assertEqual(choose(200, 1), 200)
        self.assertEqual(choose(200, 100), MIDDLE_OF_200)
        self.assertEqual(choose(200, 199), 200)
        self.assertEqual(choose(200, 200), 1)


class BeyondTheBoundsTest(unittest.TestCase):
    # The interface refuses nothing that lies somewhat beyond a bound.
    def test_above(self):
        self.assertEqual(choose(201, 100), choose(200, 100) + choose(200, 99))
        self.assertEqual(choose(230, 229), 230)
        self.assertEqual(choose(200, 201), 0)
        self.assertEqual(choose(201, 230), 0)

    def test_no_row_has_a_number_below_0(self):
        self.assertEqual(choose(-1, 0), 0)
        self.assertEqual(choose(0, -1), 0)
        self.assertEqual(choose(5, -1), 0)
        self.assertEqual(choose(-1, -1), 0)
        self.assertEqual(choose(-1, -2), 0)


class WholeTableTest(unittest.TestCase):
    def test_the_last_spot_has_0_or_1(self):
        for length in range(1, LONGEST + 1):
            self.assertEqual(choose(length, 0), choose(length - 1, 0))
            for ones in range(1, LONGEST + 1):
                parts = choose(length - 1, ones) + choose(length - 1, ones - 1)
                self.assertEqual(choose(length, ones), parts, (length, ones))

    def test_so_many_ones_as_so_many_noughts(self):
        for length in range(LONGEST + 1):
            for ones in range(length + 1):
                self.assertEqual(choose(length, ones), choose(length, length - ones), (length, ones))

    def test_all_rows_of_two_signs_together(self):
        for length in range(LONGEST + 1):
            self.assertEqual(sum(choose(length, ones) for ones in range(length + 1)), 2 ** length)

    def test_an_int_and_no_truth(self):
        for length, ones in PAIRS:
            self.assertIs(type(choose(length, ones)), int, (length, ones))

    def test_asked_again_in_another_order(self):
        first = {pair: choose(*pair) for pair in PAIRS}
        for pair in reversed(PAIRS):
            self.assertEqual(choose(*pair), first[pair], pair)
        for ones, length in PAIRS:
            self.assertEqual(choose(length, ones), first[length, ones], (length, ones))


if __name__ == "__main__":
    unittest.main()
