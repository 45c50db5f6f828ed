import math
import unittest

from hostfields.plans import counts_many, counts_number, counts_of, plan_number, plan_of, plans_many
from helper import BIG, HostTest, all_counts, all_plans


def partitions(hosts):
    """How many ways so many are parted among at most 1, 2, .. 8, by the parts' greatest size turned over."""
    told = []
    ways = [1] + [0] * hosts
    for size in range(1, 9):
        for total in range(size, hosts + 1):
            ways[total] += ways[total - size]
        told.append(ways[hosts])
    return told


SMALL = [(hosts, fields) for hosts in range(7) for fields in range(1, 5)] + [(10, 3), (40, 1), (40, 2), (3, 8), (0, 8)]
WRONG_SIZES = [(-1, 1), (-1, 8), (41, 1), (41, 8), (0, 0), (0, 9), (40, 0), (40, 9), (-1, 0), (41, 9), (-1, 9), (5, -1),
               (5, -BIG), (5, BIG), (-BIG, 5), (BIG, 5), (BIG, BIG), (10 ** 7, 8), (40, 10 ** 7)]
NO_PLANS = [[], [-1], [41], [BIG], [-BIG], [0] * 9, [1] * 9, [40] + [0] * 8, [40, 1], [20, 21], [3, -1], [-1, 3],
            [0, -1, 0], [41, -1], [42, -2], [BIG, -BIG], [BIG, 1 - BIG, 2], [6] * 8, [0] * 1000, [0] * 7 + [41]]


class PlansTest(HostTest):
    def test_how_many(self):
        for hosts in range(41):
            for fields in range(1, 9):
                self.tells(math.comb(hosts + fields - 1, fields - 1), plans_many, hosts, fields)

    def test_each_number_and_its_plan(self):
        for hosts, fields in SMALL:
            plans = all_plans(hosts, fields)
            self.tells(len(plans), plans_many, hosts, fields)
            for number, plan in enumerate(plans):
                self.tells(number, plan_number, plan)
                self.tells(plan, plan_of, hosts, fields, number)

    def test_forty_on_eight(self):
        many = math.comb(47, 7)
        self.tells([0] * 7 + [40], plan_of, 40, 8, 0)
        self.tells([0] * 6 + [1, 39], plan_of, 40, 8, 1)
        self.tells([40] + [0] * 7, plan_of, 40, 8, many - 1)
        self.tells([39, 1] + [0] * 6, plan_of, 40, 8, many - 2)
        self.tells(many - 1, plan_number, [40] + [0] * 7)
        self.tells(math.comb(46, 6), plan_number, [1] + [0] * 6 + [39])
        ahead = None
        for number in range(0, many, many // 300):
            plan = self.told(plan_of, 40, 8, number)
            self.assertEqual((len(plan), sum(plan), min(plan) >= 0), (8, 40, True))
            self.tells(number, plan_number, plan)
            self.assertTrue(ahead is None or ahead < plan)
            ahead = plan

    def test_sizes_beyond_are_refused_ahead_of_counting(self):
        for hosts, fields in WRONG_SIZES:
            self.refused("NoPlan", plans_many, hosts, fields)
            for number in (0, -1, 1, BIG):
                self.refused("NoPlan", plan_of, hosts, fields, number)

    def test_numbers_that_none_has_are_refused(self):
        for hosts, fields in SMALL + [(40, 8)]:
            many = plans_many(hosts, fields)
            plan_of(hosts, fields, many - 1)
            for number in (-1, -many, many, many + 1, BIG, -BIG):
                self.refused("NoPlan", plan_of, hosts, fields, number)

    def test_lists_that_are_no_plan_are_refused(self):
        for plan in NO_PLANS:
            self.refused("NoPlan", plan_number, plan)

    def test_a_truth_is_no_number(self):
        for handed in ((True, 2), (2, True)):
            self.refused("NoPlan", plans_many, *handed)
        for handed in ((True, 2, 0), (2, True, 0), (2, 2, False)):
            self.refused("NoPlan", plan_of, *handed)
        self.refused("NoPlan", plan_number, [True, 2])

    def test_told_plans_are_the_askers_own(self):
        for hosts, fields, number in ((4, 3, 5), (0, 1, 0), (7, 1, 0)):
            plan = plan_of(hosts, fields, number)
            kept = list(plan)
            plan.append(9)
            plan[0] = 99
            self.tells(kept, plan_of, hosts, fields, number)
            self.tells(number, plan_number, kept)


class CountsTest(HostTest):
    def test_how_many(self):
        for hosts in range(41):
            for fields, many in enumerate(partitions(hosts), start=1):
                self.tells(many, counts_many, hosts, fields)

    def test_by_hand(self):
        self.tells(4, counts_many, 6, 2)
        self.tells([3, 3], counts_of, 6, 2, 0)
        self.tells([6, 0], counts_of, 6, 2, 3)
        self.tells(0, counts_number, [2, 1, 1])
        self.tells(3, counts_number, [4, 0, 0])

    def test_each_number_and_its_counts(self):
        for hosts, fields in SMALL:
            listed = all_counts(hosts, fields)
            self.tells(len(listed), counts_many, hosts, fields)
            for number, counts in enumerate(listed):
                self.tells(number, counts_number, counts)
                self.tells(counts, counts_of, hosts, fields, number)

    def test_forty_on_eight(self):
        many = partitions(40)[7]
        self.tells([5] * 8, counts_of, 40, 8, 0)
        self.tells([6] + [5] * 6 + [4], counts_of, 40, 8, 1)
        self.tells([40] + [0] * 7, counts_of, 40, 8, many - 1)
        self.tells([39, 1] + [0] * 6, counts_of, 40, 8, many - 2)
        self.tells(many - 1, counts_number, [40] + [0] * 7)
        self.tells(0, counts_number, [5] * 8)
        ahead = None
        for number in range(0, many, 37):
            counts = self.told(counts_of, 40, 8, number)
            self.assertEqual((len(counts), sum(counts), min(counts) >= 0), (8, 40, True))
            self.assertEqual(counts, sorted(counts, reverse=True))
            self.tells(number, counts_number, counts)
            self.assertTrue(ahead is None or ahead < counts)
            ahead = counts

    def test_sizes_beyond_are_refused_ahead_of_counting(self):
        for hosts, fields in WRONG_SIZES:
            self.refused("NoPlan", counts_many, hosts, fields)
            for number in (0, -1, 1, BIG):
                self.refused("NoPlan", counts_of, hosts, fields, number)

    def test_numbers_that_none_has_are_refused(self):
        for hosts, fields in SMALL + [(40, 8)]:
            many = counts_many(hosts, fields)
            counts_of(hosts, fields, many - 1)
            for number in (-1, -many, many, many + 1, BIG, -BIG):
                self.refused("NoPlan", counts_of, hosts, fields, number)

    def test_lists_that_are_no_counts_are_refused(self):
        for counts in NO_PLANS + [[0, 1], [1, 2], [2, 2, 3], [3, 1, 2], [1, 0, 1], [5] * 7 + [4, 1], [0, 40]]:
            self.refused("NoPlan", counts_number, counts)

    def test_a_plan_that_rises_has_a_number_but_no_counts_number(self):
        self.tells(0, plan_number, [0, 0, 3])
        self.refused("NoPlan", counts_number, [0, 0, 3])

    def test_a_truth_is_no_number(self):
        for handed in ((True, 2), (2, True)):
            self.refused("NoPlan", counts_many, *handed)
        for handed in ((True, 2, 0), (2, True, 0), (2, 2, False)):
            self.refused("NoPlan", counts_of, *handed)
        self.refused("NoPlan", counts_number, [2, True])

    def test_told_counts_are_the_askers_own(self):
        for hosts, fields, number in ((4, 3, 2), (0, 1, 0), (7, 1, 0)):
            counts = counts_of(hosts, fields, number)
            kept = list(counts)
            counts.append(9)
            counts[0] = 99
            self.tells(kept, counts_of, hosts, fields, number)
            self.tells(number, counts_number, kept)


if __name__ == "__main__":
    unittest.main()
