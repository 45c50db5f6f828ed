import unittest
from fractions import Fraction

from hostfields.ratios import below, minus, plus, ratio, times
from helper import BIG, HostTest, pair

NUMBERS = (-BIG, -(10 ** 29), -12, -6, -4, -3, -2, -1, 0, 1, 2, 3, 4, 6, 9, 12, 10 ** 29, BIG - 1, BIG)


def fractions():
    tops = (-BIG, -12, -7, -1, 0, 1, 5, 6, 10 ** 29, BIG)
    bottoms = (1, 2, 3, 4, 6, 35, 10 ** 29, BIG)
    return sorted({Fraction(top, bottom) for top in tops for bottom in bottoms})


class RatioTest(HostTest):
    def test_lowest_terms(self):
        self.tells((2, 3), ratio, 4, 6)
        self.tells((2, 3), ratio, 2, 3)
        self.tells((3, 1), ratio, 12, 4)
        self.tells((1, 4), ratio, 3, 12)
        self.tells((1, 1), ratio, 7, 7)

    def test_bottom_is_from_one_on(self):
        self.tells((-2, 3), ratio, -4, 6)
        self.tells((-2, 3), ratio, 4, -6)
        self.tells((2, 3), ratio, -4, -6)
        self.tells((-1, 1), ratio, 5, -5)
        self.tells((-7, 2), ratio, 7, -2)

    def test_nought(self):
        for bottom in (1, -1, 5, -6, BIG, -BIG):
            self.tells((0, 1), ratio, 0, bottom)

    def test_thirty_figures(self):
        self.tells((BIG, 1), ratio, BIG, 1)
        self.tells((-1, 1), ratio, BIG, -BIG)
        self.tells((1, 9), ratio, BIG // 9, BIG)
        self.tells((-10, 1), ratio, 10 ** 29, -(10 ** 28))

    def test_any_top_over_any_bottom(self):
        for top in NUMBERS:
            for bottom in NUMBERS:
                if bottom != 0:
                    self.tells(pair(Fraction(top, bottom)), ratio, top, bottom)

    def test_what_was_told_may_be_handed_in_whatever_its_size(self):
        top = 3 ** 4000
        bottom = 6 ** 2000
        self.assertTrue((3 ** 2000, 2 ** 2000) == ratio(top, bottom))
        self.assertTrue((-(3 ** 2000), 2 ** 2000) == ratio(0 - top, bottom))

    def test_bottom_nought_is_refused(self):
        for top in (0, 1, -1, 5, BIG, -BIG):
            self.refused("NoNumber", ratio, top, 0)


class ReckoningTest(HostTest):
    def test_plus(self):
        self.tells((5, 6), plus, (1, 2), (1, 3))
        self.tells((2, 3), plus, (1, 6), (1, 2))
        self.tells((1, 1), plus, (1, 2), (1, 2))
        self.tells((0, 1), plus, (1, 2), (-1, 2))
        self.tells((-1, 6), plus, (1, 3), (-1, 2))

    def test_minus_takes_the_second_from_the_first(self):
        self.tells((1, 6), minus, (1, 2), (1, 3))
        self.tells((-1, 6), minus, (1, 3), (1, 2))
        self.tells((0, 1), minus, (-5, 7), (-5, 7))
        self.tells((-5, 7), minus, (0, 1), (5, 7))

    def test_times(self):
        self.tells((1, 2), times, (2, 3), (3, 4))
        self.tells((0, 1), times, (0, 1), (-3, 4))
        self.tells((1, 1), times, (-2, 3), (-3, 2))
        self.tells((-6, 1), times, (2, 1), (-3, 1))

    def test_below(self):
        self.tells(True, below, (1, 3), (1, 2))
        self.tells(False, below, (1, 2), (1, 3))
        self.tells(False, below, (1, 2), (1, 2))
        self.tells(True, below, (-1, 2), (-1, 3))
        self.tells(True, below, (-1, 2), (0, 1))
        self.tells(False, below, (0, 1), (0, 1))
        self.tells(True, below, (BIG - 1, BIG), (1, 1))
        self.tells(False, below, (1, 1), (BIG - 1, BIG))

    def test_all_of_many(self):
        for one in fractions():
            for other in fractions():
                handed = (pair(one), pair(other))
                self.tells(pair(one + other), plus, *handed)
                self.tells(pair(one - other), minus, *handed)
                self.tells(pair(one * other), times, *handed)
                self.tells(one < other, below, *handed)


if __name__ == "__main__":
    unittest.main()
