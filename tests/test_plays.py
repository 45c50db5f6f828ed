import collections
import itertools
import random
import unittest
from fractions import Fraction

from hostfields.fields import gain
from hostfields.finder import battle_worth
from hostfields.mixes import taken_apart
from hostfields.plays import mixed_gain, played, whole_of
from helper import BIG, HostTest, bent_at_each_place, drawn_battle, drawn_mix, pair

MIX = [([1, 1, 1], 2), ([0, 2, 1], 1), ([3, 0, 0], 4)]
OTHER = [([0, 1, 1], 1), ([2, 0, 0], 3)]
BATTLE = (3, 2, [("more", 3, 1), ("lead", 5, 2), ("table", [[0, 1, 2], [3, 4, 5], [-1, -2, -3], [9, 0, 7]])])

# Of other sizes than any mix has.
NO_MIXES = [None, True, False, 0, 1, "", "mix", (), [], [[]], [()], [None], [([], 1)], [([1] * 9, 1)], [([41], 1)],
            [([1, 1], 0)], [([1, 1], -1)], [([1, -1], 1)], [([1, 1], 1), ([1, 0], 1)], [([1, 1], 1), ([1, 1, 0], 1)],
            [([1, 1], 1, 1)], [([1, 1],)], (([1, 1], 1),), [[[1, 1], 1]], [((1, 1), 1)], ([1, 1], 1), [[1, 1]]]


class WholeTest(HostTest):
    def test_by_hand(self):
        self.tells(7, whole_of, MIX)
        self.tells(1, whole_of, [([0], 1)])
        self.tells(2 * BIG, whole_of, [([40], BIG), ([40], BIG)])
        self.tells(10 ** 900 + 1, whole_of, [([1, 2], 10 ** 900), ([2, 1], 1)])

    def test_drawn(self):
        draw = random.Random(101)
        for hosts, fields, many in itertools.product((0, 3, 40), (1, 4, 8), (1, 5, 200)):
            mix = drawn_mix(draw, hosts, fields, many)
            self.tells(sum(weight for plan, weight in mix), whole_of, mix)

    def test_what_is_no_mix_is_refused(self):
        for wrong in NO_MIXES + list(bent_at_each_place(MIX)):
            self.refused("NoMix", whole_of, wrong)


class PlayedTest(HostTest):
    def test_by_hand(self):
        plans = [[1, 1, 1]] * 2 + [[0, 2, 1]] + [[3, 0, 0]] * 4
        for number, plan in enumerate(plans):
            self.tells(plan, played, MIX, number)

    def test_each_number_plays_each_plan_as_often_as_its_weight(self):
        draw = random.Random(102)
        for trial in range(40):
            many = draw.randint(1, 6)
            mix = [(plan, draw.randint(1, 9)) for plan, weight in drawn_mix(draw, 4, 3, many)]
            weights = collections.Counter()
            for plan, weight in mix:
                weights[tuple(plan)] += weight
            told = [tuple(self.told(played, mix, number)) for number in range(sum(weights.values()))]
            self.assertEqual(collections.Counter(told), weights)
            # In the order of the mix, not only as often.
            self.assertEqual(told, [tuple(plan) for plan, weight in mix for turn in range(weight)])

    def test_a_plan_twice(self):
        mix = [([2, 0], 1), ([1, 1], 2), ([2, 0], 3)]
        told = [played(mix, number) for number in range(6)]
        self.assertEqual(told, [[2, 0], [1, 1], [1, 1], [2, 0], [2, 0], [2, 0]])

    def test_the_first_and_the_last_number_of_each_plan(self):
        draw = random.Random(103)
        for figures in (1, 30, 900):
            mix = [(plan, draw.randint(10 ** (figures - 1), 10 ** figures - 1))
                   for plan, weight in drawn_mix(draw, 7, 4, 8)]
            start = 0
            for plan, weight in mix:
                self.tells(plan, played, mix, start)
                self.tells(plan, played, mix, start + weight - 1)
                start += weight

    def test_other_numbers_are_refused(self):
        for mix, whole in ((MIX, 7), ([([0], 1)], 1), ([([1, 0], BIG)], BIG)):
            for number in (-1, -2, -whole, whole, whole + 1, -BIG, BIG + whole, 10 ** 900):
                self.refused("NoNumber", played, mix, number)

    def test_a_truth_is_no_number(self):
        for number in (True, False):
            self.refused("NoNumber", played, MIX, number)

    def test_what_is_no_mix_is_refused_ahead(self):
        for wrong in NO_MIXES + list(bent_at_each_place(MIX)):
            for number in (0, -1, BIG):
                self.refused("NoMix", played, wrong, number)

    def test_what_was_handed_in_may_be_changed_behind(self):
        mix = [([2, 1], 3)]
        told = played(mix, 0)
        mix[0][0][0] = 9
        self.assertEqual(told, [2, 1])


class MixedGainTest(HostTest):
    def test_by_hand(self):
        battle = (1, 1, [("more", 3, 0), ("more", 1, 1)])
        # Met there: 0 + 1; apart: 3 - 1, or -3 + 1.
        self.tells((1, 1), mixed_gain, battle, [([1, 0], 1)], [([1, 0], 5)])
        self.tells((2, 1), mixed_gain, battle, [([1, 0], 1)], [([0, 1], 1)])
        self.tells((5, 3), mixed_gain, battle, [([1, 0], 1)], [([0, 1], 2), ([1, 0], 1)])
        self.tells((0, 1), mixed_gain, battle, [([1, 0], 1), ([0, 1], 1)], [([0, 1], 1), ([1, 0], 3)])

    def by_all_pairs(self, battle, one, other):
        won = sum(weight * share * gain(battle, plan, own) for plan, weight in one for own, share in other)
        return Fraction(won, sum(weight for plan, weight in one) * sum(weight for plan, weight in other))

    def test_drawn_by_all_pairs(self):
        draw = random.Random(104)
        for seed, size in enumerate(((0, 0, 1), (0, 3, 2), (3, 0, 2), (1, 1, 1), (4, 3, 3), (2, 7, 4), (10, 10, 5))):
            for most in (3, BIG):
                battle = drawn_battle(f"plays {seed} {most}", *size, most)
                for many in (1, 3, 12):
                    one = drawn_mix(draw, size[0], size[2], many)
                    other = drawn_mix(draw, size[1], size[2], draw.randint(1, 9))
                    self.tells(pair(self.by_all_pairs(battle, one, other)), mixed_gain, battle, one, other)

    def test_by_all_numbers_that_play(self):
        draw = random.Random(105)
        battle = drawn_battle(106, 3, 2, 3)
        for trial in range(6):
            one = [(plan, draw.randint(1, 5)) for plan, weight in drawn_mix(draw, 3, 3, 3)]
            other = [(plan, draw.randint(1, 5)) for plan, weight in drawn_mix(draw, 2, 3, 3)]
            turns = list(itertools.product(range(whole_of(one)), range(whole_of(other))))
            won = sum(gain(battle, played(one, left), played(other, right)) for left, right in turns)
            self.tells(pair(Fraction(won, len(turns))), mixed_gain, battle, one, other)

    def test_the_mixes_of_both_papers_win_the_worth(self):
        for seed in range(8):
            battle = drawn_battle(f"both {seed}", 4, 3, 3, BIG)
            worth, one, other = battle_worth(battle)
            self.tells(worth, mixed_gain, battle, taken_apart(one[0]), taken_apart(other[0]))

    def test_long_mixes(self):
        draw = random.Random(107)
        battle = drawn_battle(108, 10, 10, 5, BIG)
        one = drawn_mix(draw, 10, 5, 3000)
        other = drawn_mix(draw, 10, 5, 3000)
        self.told_soon(mixed_gain, battle, one, other)

    def test_what_is_no_mix_is_refused(self):
        self.told(mixed_gain, BATTLE, MIX, OTHER)
        for wrong in NO_MIXES + list(bent_at_each_place(MIX)):
            self.refused("NoMix", mixed_gain, BATTLE, wrong, OTHER)
            self.refused("NoMix", mixed_gain, BATTLE, wrong, wrong)
        for wrong in NO_MIXES + list(bent_at_each_place(OTHER)):
            self.refused("NoMix", mixed_gain, BATTLE, MIX, wrong)

    def test_a_mix_of_other_hosts_or_fields_is_refused(self):
        for wrong in (OTHER, [([2, 2, 0], 1)], [([1, 1, 0], 1)], [([3, 0], 1)], [([3, 0, 0, 0], 1)], [([3], 1)]):
            self.refused("NoMix", mixed_gain, BATTLE, wrong, OTHER)
        for wrong in (MIX, [([2, 1, 0], 1)], [([1, 0, 0], 1)], [([2, 0], 1)], [([2, 0, 0, 0], 1)], [([2], 1)]):
            self.refused("NoMix", mixed_gain, BATTLE, MIX, wrong)

    def test_no_battle_goes_ahead(self):
        for battle, field in (((3, 2, []), -1), ((3, 11, BATTLE[2]), -1), ((3, 2, [("more", 3, 4)]), 0),
                              ((2, 2, BATTLE[2]), 2), ((3, 2, [("more", 3, 0), ("less",)]), 1)):
            for one, other in ((MIX, OTHER), (None, OTHER), (MIX, []), ([], [])):
                self.assertEqual(self.refused("NoBattle", mixed_gain, battle, one, other).field, field)


if __name__ == "__main__":
    unittest.main()
