import itertools
import random
import unittest
from fractions import Fraction

from hostfields.counts import counts_table, counts_worth, is_alike, ring_gain, ring_mix, ring_of
from hostfields.fields import gain, rises
from hostfields.judge import judged
from hostfields.mixes import stream_of
from helper import (BIG, HostTest, all_counts, all_plans, bent_at_each_place, best_table, drawn_field, drawn_mix,
                    drawn_plan, even_table, pair, rising_table, table)

MORE = ("more", 3, 1)
LEAD = ("lead", 2, 1)
SMALL = [(0, 0, 1), (0, 0, 4), (1, 0, 2), (0, 2, 3), (1, 1, 1), (4, 3, 1), (1, 1, 2), (2, 3, 2), (3, 2, 3), (3, 3, 3),
         (2, 2, 4), (4, 2, 3), (2, 1, 5), (5, 5, 2)]


def alike(first, second, fields, field):
    return (first, second, [field] * fields)


def turnings(plan):
    return [plan[start:] + plan[:start] for start in range(len(plan))]


def drawn_alike():
    """Small battles of each form, some with great numbers."""
    draw = random.Random(41)
    for first, second, fields in SMALL:
        for most in (1, 5, BIG):
            for trial in range(3):
                yield alike(first, second, fields, drawn_field(draw, first, second, most))


class AlikeTest(HostTest):
    def test_the_same_field(self):
        for many in range(1, 6):
            for field in (MORE, LEAD, table(2, 3, lambda x, y: 7 * x - y)):
                self.tells(True, is_alike, (2, 3, [field] * many))

    def test_one_field_alone_is_alike(self):
        self.tells(True, is_alike, (0, 0, [("table", [[0]])]))

    def test_equal_tables_of_lists_of_their_own(self):
        self.tells(True, is_alike, (2, 3, [table(2, 3, lambda x, y: 7 * x - y) for field in range(5)]))

    def test_another_number_at_one_field(self):
        others = {MORE: [("more", 2, 1), ("more", 4, 1), ("more", 3, 0), ("more", 3, 2), ("more", 3, -1)],
                  LEAD: [("lead", 1, 1), ("lead", 3, 1), ("lead", 2, 0), ("lead", 2, 2), ("lead", 2, BIG)]}
        for field, changes in others.items():
            for many, change in itertools.product(range(2, 6), changes):
                for place in range(many):
                    fields = [field] * many
                    fields[place] = change
                    self.is_none((2, 3, fields))

    def test_another_number_in_one_table(self):
        for place, x, y, by in itertools.product(range(3), range(3), range(4), (-1, 1, BIG)):
            fields = [table(2, 3, lambda a, b: 7 * a - b) for field in range(3)]
            fields[place][1][x][y] += by
            self.is_none((2, 3, fields))

    def test_another_word(self):
        self.is_none((2, 3, [("more", 3, 1), ("lead", 3, 1)]))
        self.is_none((2, 3, [("lead", 3, 1), ("lead", 3, 1), ("more", 3, 1)]))
        # What they win is the same for all counts, but the tuples are not.
        same = table(2, 2, lambda x, y: 3 if x > y else -3 if x < y else 1)
        self.is_none((2, 2, [MORE, same]))
        self.is_none((2, 2, [("lead", 3, 1), ("more", 3, -3)]))

    def is_none(self, battle):
        self.tells(False, is_alike, battle)
        for call, rest in ((counts_table, ()), (counts_worth, ()), (ring_gain, ([], [])), (ring_gain, ([-1], [99]))):
            self.refused("NoAlike", call, battle, *rest)

    def test_no_battle_goes_ahead_of_no_alike(self):
        battle = (2, 3, [MORE, LEAD, ("more", 0, 0)])
        for call, rest in ((is_alike, ()), (counts_table, ()), (counts_worth, ()), (ring_gain, ([], []))):
            self.assertEqual(self.refused("NoBattle", call, battle, *rest).field, 2)
            self.assertEqual(self.refused("NoBattle", call, (2, 11, [MORE, LEAD]), *rest).field, -1)


class RingTest(HostTest):
    def test_by_hand(self):
        self.tells([[4]], ring_of, [4])
        self.tells([[1, 2], [2, 1]], ring_of, [1, 2])
        self.tells([[3, 1, 0], [1, 0, 3], [0, 3, 1]], ring_of, [3, 1, 0])
        self.tells([[2, 2, 2]] * 3, ring_of, [2, 2, 2])
        self.tells([[1, 0, 1, 0], [0, 1, 0, 1], [1, 0, 1, 0], [0, 1, 0, 1]], ring_of, [1, 0, 1, 0])

    def test_one_to_eight_numbers(self):
        draw = random.Random(42)
        for many in range(1, 9):
            for most in (0, 1, 9, BIG):
                plan = [draw.randint(-most, most) for number in range(many)]
                ring = self.told(ring_of, plan)
                self.assertEqual(len(ring), many)
                for start, turning in enumerate(ring):
                    self.assertEqual(turning, [plan[(start + place) % many] for place in range(many)])

    def test_gain_by_hand(self):
        battle = alike(2, 1, 2, ("more", 3, 0))
        # [2, 0] wins 3 against [1, 0] and 0 against [0, 1]; turned round it does the same.
        self.tells((3, 2), ring_gain, battle, [2, 0], [1, 0])
        self.tells((3, 1), ring_gain, battle, [1, 1], [0, 1])
        self.tells((1, 1), ring_gain, alike(0, 0, 1, MORE), [0], [0])
        self.tells((1, 3), ring_gain, alike(1, 1, 3, table(1, 1, lambda x, y: x * y)), [0, 1, 0], [0, 0, 1])

    def test_gain_is_what_all_turnings_win_on_average(self):
        for battle in drawn_alike():
            fields = len(battle[2])
            for one in all_plans(battle[0], fields)[:8]:
                for other in all_plans(battle[1], fields)[-8:]:
                    won = sum(gain(battle, left, right) for left in turnings(one) for right in turnings(other))
                    self.tells(pair(Fraction(won, fields ** 2)), ring_gain, battle, one, other)

    def test_a_ring_wins_what_all_orders_win(self):
        draw = random.Random(43)
        for trial in range(10):
            battle = alike(5, 4, 4, drawn_field(draw, 5, 4))
            one = drawn_plan(draw, 5, 4)
            other = drawn_plan(draw, 4, 4)
            won = sum(gain(battle, list(order), other) for order in itertools.permutations(one))
            self.tells(pair(Fraction(won, 24)), ring_gain, battle, one, other)

    def test_what_is_no_plan_is_refused(self):
        battle = alike(3, 2, 3, MORE)
        one = [1, 2, 0]
        other = [0, 1, 1]
        self.told(ring_gain, battle, one, other)
        for wrong in ([], [3], [3, 0], [3, 0, 0, 0], [1, 1, 0], [2, 2, 0], [4, -1, 0], [BIG, 0, 0], [True, 2, 0],
                      other):
            self.refused("NoPlan", ring_gain, battle, wrong, other)
        for wrong in ([], [2], [2, 0], [2, 0, 0, 0], [1, 0, 0], [2, 1, 0], [3, -1, 0], [BIG, 0, 0], [False, 2, 0], one):
            self.refused("NoPlan", ring_gain, battle, one, wrong)


class CountsTableTest(HostTest):
    def test_by_hand(self):
        # Counts of 2 on 2 fields: [1, 1] and [2, 0]; of 1: [1, 0].
        self.tells([[6], [3]], counts_table, alike(2, 1, 2, ("more", 3, 0)))
        self.tells([[-6, -3]], counts_table, alike(1, 2, 2, ("more", 3, 0)))
        self.tells([[7]], counts_table, alike(4, 4, 1, ("more", 9, 7)))
        self.tells([[25]], counts_table, alike(0, 0, 5, ("more", 1, 1)))

    def test_each_number_by_all_turnings(self):
        for battle in drawn_alike():
            fields = len(battle[2])
            told = self.told(counts_table, battle)
            ones = all_counts(battle[0], fields)
            others = all_counts(battle[1], fields)
            self.assertEqual([len(row) for row in told], [len(others)] * len(ones))
            for row, one in zip(told, ones):
                for number, other in zip(row, others):
                    won = sum(gain(battle, left, right) for left in turnings(one) for right in turnings(other))
                    self.assertEqual(Fraction(number), Fraction(won, fields))
                    self.assertEqual(pair(Fraction(number, fields)), ring_gain(battle, one, other))

    def test_ten_hosts_on_five_fields(self):
        battle = alike(10, 9, 5, table(10, 9, lambda x, y: 10 ** 20 * x * x - y ** 3))
        told = self.told(counts_table, battle)
        ones = all_counts(10, 5)
        others = all_counts(9, 5)
        self.assertEqual([len(told), len(told[0])], [30, 23])
        for row, one in enumerate(ones):
            for column, other in enumerate(others):
                squares = sum(x * x for x in one)
                cubes = sum(y ** 3 for y in other)
                self.assertEqual(told[row][column], 5 * (10 ** 20 * squares - cubes))


class RingMixTest(HostTest):
    def test_by_hand(self):
        self.tells([([2], 5)], ring_mix, [([2], 5)])
        self.tells([([2, 1], 3), ([1, 2], 3), ([3, 0], 1), ([0, 3], 1)], ring_mix, [([2, 1], 3), ([3, 0], 1)])
        self.tells([([1, 1], 4)] * 4, ring_mix, [([1, 1], 4), ([1, 1], 4)])

    def test_drawn(self):
        draw = random.Random(44)
        for hosts, fields in ((0, 1), (0, 8), (3, 2), (7, 4), (40, 1), (40, 8)):
            mix = [(sorted(plan, reverse=True), weight) for plan, weight in drawn_mix(draw, hosts, fields, 6)]
            told = [(turning, weight) for plan, weight in mix for turning in turnings(plan)]
            self.tells(told, ring_mix, mix)
            # On each field the ring sends each number of each plan as often.
            for row in stream_of(told):
                self.assertEqual(sum(flow for left, sent, flow in row), fields * sum(weight for plan, weight in mix))
                self.assertEqual(sum(sent * flow for left, sent, flow in row),
                                 hosts * sum(weight for plan, weight in mix))

    def test_plans_that_are_no_counts(self):
        good = [([2, 1, 0], 3), ([1, 1, 1], 1), ([3, 0, 0], BIG)]
        self.told(ring_mix, good)
        for plan in ([0, 1, 2], [1, 2, 0], [2, 0, 1], [0, 0, 3]):
            self.told(stream_of, [(plan, 1)])
            for place in range(4):
                self.refused("NoMix", ring_mix, good[:place] + [(plan, 1)] + good[place:])

    def test_what_is_no_mix(self):
        good = [([2, 1, 0], 3), ([1, 1, 1], 1)]
        for mix in ([], [()], [([1],)], [([], 1)], [([1], 0)], [([1], -1)], [([41], 1)], [([1] + [0] * 8, 1)],
                    [([1, -1], 1)], good + [([1, 1], 1)], good + [([2, 0, 0], 1)], good + [([2, 1], 1)]):
            self.refused("NoMix", ring_mix, mix)
        for bent in bent_at_each_place(good):
            self.refused("NoMix", ring_mix, bent)
        for bent in bent_at_each_place([([1, 0], 1)]):
            self.refused("NoMix", ring_mix, bent)

    def test_what_was_handed_in_may_be_changed_behind(self):
        mix = [([2, 1], 3)]
        told = ring_mix(mix)
        mix[0][0][0] = 9
        self.assertEqual(told, [([2, 1], 3), ([1, 2], 3)])


class CountsWorthTest(HostTest):
    def is_right(self, battle, worth=None):
        """See, by the judge, that the mixes of both sides keep the worth: so it is the battle's."""
        told = self.told(counts_worth, battle)
        self.assertEqual([type(told), len(told)], [tuple, 3])
        found = told[0]
        self.assertEqual(found, pair(Fraction(*found)))
        if worth is not None:
            self.assertEqual(found, worth)
        for side, hosts, mix in (("first", battle[0], told[1]), ("second", battle[1], told[2])):
            self.assertEqual([type(mix)] + [type(part) for part in mix], [list] + [tuple] * len(mix))
            for plan, weight in mix:
                self.assertEqual([len(plan), sum(plan)], [len(battle[2]), hosts])
                self.assertEqual(plan, sorted(plan, reverse=True))
                self.assertEqual([type(weight), weight >= 1], [int, True])
            stream = stream_of(ring_mix(mix))
            paper = (stream, best_table(battle, side, stream))
            self.assertIsNone(judged(battle, side, found, paper))
        return told

    def test_by_hand(self):
        self.tells(((1, 1), [([0], 1)], [([0], 1)]), counts_worth, alike(0, 0, 1, MORE))
        self.tells(((5, 1), [([0, 0, 0, 0, 0], 1)], [([0, 0, 0, 0, 0], 1)]), counts_worth,
                   alike(0, 0, 5, ("more", 1, 1)))
        self.tells(((3, 1), [([4], 1)], [([3], 1)]), counts_worth, alike(4, 3, 1, MORE))
        # [1, 1] is never beaten by a single host, and ties it on one field.
        self.tells(((3, 1), [([1, 1], 1)], [([1, 0], 1)]), counts_worth, alike(2, 1, 2, ("more", 3, 0)))
        # One host each, and a host that is met wins 1: met on one field in three.
        self.is_right(alike(1, 1, 3, table(1, 1, lambda x, y: x * y)), (1, 3))

    def test_a_mix_is_wanted(self):
        # Of [1, 1] and [2, 0] the first wins where both have the same, as with two faces of a coin.
        battle = alike(2, 2, 2, table(2, 2, lambda x, y: [[2, 0, 0], [0, 2, 0], [0, 0, 2]][x][y]))
        self.assertEqual(counts_table(battle), [[8, 0], [0, 4]])
        told = self.is_right(battle, (4, 3))
        self.assertEqual(told[1:], ([([1, 1], 1), ([2, 0], 2)], [([1, 1], 1), ([2, 0], 2)]))

    def test_small_battles_by_the_judge_and_by_all_plans(self):
        for battle in drawn_alike():
            worth, one, other = self.is_right(battle)
            fields = len(battle[2])
            first = ring_mix(one)
            second = ring_mix(other)
            for plan in all_plans(battle[1], fields):
                won = sum(weight * gain(battle, own, plan) for own, weight in first)
                self.assertGreaterEqual(Fraction(won, sum(weight for own, weight in first)), Fraction(*worth))
            for plan in all_plans(battle[0], fields):
                won = sum(weight * gain(battle, plan, own) for own, weight in second)
                self.assertLessEqual(Fraction(won, sum(weight for own, weight in second)), Fraction(*worth))

    def test_no_hosts_on_one_side_or_both(self):
        draw = random.Random(45)
        for first, second in ((0, 0), (0, 1), (1, 0), (0, 10), (10, 0)):
            for fields in range(1, 6):
                for most in (1, BIG):
                    self.is_right(alike(first, second, fields, drawn_field(draw, first, second, most)))
                    self.is_right(alike(first, second, fields, rising_table(draw, first, second, most)))

    def test_all_sizes(self):
        draw = random.Random(46)
        for first, second, fields in itertools.product((1, 3, 6, 10), (2, 7, 10), range(1, 6)):
            self.is_right(alike(first, second, fields, drawn_field(draw, first, second, 4)))

    def soon(self, battle, worth=None):
        self.told_soon(counts_worth, battle)
        return self.is_right(battle, worth)

    def test_ten_hosts_on_five_fields_of_more(self):
        for worth, tie in ((1, 0), (1, 1), (1, -1), (7, 3), (BIG, 0), (BIG, BIG // 7), (BIG, 1 - BIG)):
            for second in (10, 9, 6):
                self.soon(alike(10, second, 5, ("more", worth, tie)))
        self.soon(alike(10, 10, 5, ("more", BIG, 0)), (0, 1))

    def test_ten_hosts_on_five_fields_of_lead(self):
        for lead in (-BIG, -11, -10, -3, -1, 0, 1, 2, 5, 10, 11, BIG):
            self.soon(alike(10, 10, 5, ("lead", 1, lead)))
            self.soon(alike(10, 10, 5, ("lead", BIG, lead)))
        self.soon(alike(10, 10, 5, ("lead", BIG, 11)), (-5 * BIG, 1))
        self.soon(alike(10, 10, 5, ("lead", BIG, -10)), (5 * BIG, 1))

    def test_ten_hosts_on_five_fields_of_tables_that_rise(self):
        draw = random.Random(47)
        for most in (1, 5, BIG // 100):
            for trial in range(3):
                battle = alike(10, 10, 5, rising_table(draw, 10, 10, most))
                self.assertTrue(rises(battle))
                self.soon(battle)

    def test_ten_hosts_on_five_fields_of_tables_that_do_not_rise(self):
        draw = random.Random(48)
        for most in (1, 5, BIG):
            for trial in range(4):
                battle = alike(10, 10, 5, table(10, 10, lambda x, y: draw.randint(-most, most)))
                self.assertFalse(rises(battle))
                self.soon(battle)
                sparse = table(10, 10, lambda x, y: draw.choice((0, 0, 0, draw.randint(-most, most))))
                self.soon(alike(10, 10, 5, sparse))
                self.soon(alike(10, 10, 5, even_table(draw, 10, most)), (0, 1))

    def test_ten_hosts_on_five_fields_where_like_meets_like(self):
        for most in (1, BIG):
            self.soon(alike(10, 10, 5, table(10, 10, lambda x, y: most if x == y else 0)))
            self.soon(alike(10, 10, 5, table(10, 10, lambda x, y: most * ((x + y) % 2))))
            self.soon(alike(10, 10, 5, table(10, 10, lambda x, y: most)), (5 * most, 1))
            self.soon(alike(10, 10, 5, table(10, 10, lambda x, y: most * (x - y))), (0, 1))

    def test_what_was_handed_in_may_be_changed_behind(self):
        rows = [[0, 0], [0, 1]]
        battle = (1, 1, [("table", rows), ("table", rows)])
        told = counts_worth(battle)
        kept = repr(told)
        rows[1][1] = 5
        self.assertEqual(repr(told), kept)
        self.assertEqual(told[0], (1, 2))
        self.is_right(battle, (5, 2))


if __name__ == "__main__":
    unittest.main()
