import collections
import math
import random
import unittest

from hostfields.mixes import is_stream, shares_of, stream_of, taken_apart
from helper import BIG, HostTest, all_plans, bent_at_each_place, drawn_mix

SIZES = [(hosts, fields) for hosts in (0, 1, 2, 5, 13, 40) for fields in (1, 2, 3, 8)]

MIX = [([1, 1, 1], 2), ([0, 2, 1], 1), ([3, 0, 0], 4)]
STREAM = [[(3, 0, 1), (3, 1, 2), (3, 3, 4)], [(0, 0, 4), (2, 1, 2), (3, 2, 1)], [(0, 0, 4), (1, 1, 3)]]
# Two plans that come together on the last field.
JOINED = [[(2, 0, 1), (2, 1, 1)], [(1, 0, 1), (2, 1, 1)], [(1, 1, 2)]]


def stream_by_words(mix):
    """Point 10, plan by plan."""
    stream = []
    for field in range(len(mix[0][0])):
        flows = collections.Counter()
        for plan, weight in mix:
            flows[(sum(plan) - sum(plan[:field]), plan[field])] += weight
        stream.append([key + (flows[key],) for key in sorted(flows)])
    return stream


def shares_by_words(mix):
    """Point 8, plan by plan."""
    hosts = sum(mix[0][0])
    shares = []
    for field in range(len(mix[0][0])):
        sent = collections.Counter()
        for plan, weight in mix:
            sent[plan[field]] += weight
        shares.append([sent[count] for count in range(hosts + 1)])
    return shares


def stream_of_all_plans(hosts, fields):
    """The stream of the mix of all plans, each with the weight 1, without going through them."""
    def ways(left, many):
        return math.comb(left + many - 1, many - 1) if many else int(left == 0)

    stream = []
    for field in range(fields):
        row = []
        for left in range(hosts + 1):
            for sent in range(left + 1):
                flow = ways(hosts - left, field) * ways(left - sent, fields - field - 1)
                if flow:
                    row.append((left, sent, flow))
        stream.append(row)
    return stream


class MixesTest(HostTest):
    def takes_apart(self, stream):
        """See that the mix told is one of unlike plans, few enough, and has this stream."""
        mix = self.told(taken_apart, stream)
        self.assertIsInstance(mix, list)
        for part in mix:
            self.assertIsInstance(part, tuple)
            self.assertEqual([type(part[0]), type(part[1]), len(part)], [list, int, 2])
        plans = [tuple(plan) for plan, weight in mix]
        self.assertEqual(len(set(plans)), len(plans))
        self.assertLessEqual(len(plans), sum(len(row) for row in stream))
        self.assertTrue(all(weight >= 1 for plan, weight in mix))
        self.assertEqual(stream_by_words(mix), stream)
        self.tells(stream, stream_of, mix)
        return mix


class StreamOfTest(MixesTest):
    def test_by_hand(self):
        self.tells(STREAM, stream_of, MIX)
        self.tells([[(0, 0, 5)]], stream_of, [([0], 5)])
        self.tells([[(40, 40, 1)]], stream_of, [([40], 1)])
        self.tells([[(1, 0, 1), (1, 1, 2)], [(0, 0, 2), (1, 1, 1)]], stream_of, [([1, 0], 2), ([0, 1], 1)])

    def test_flows_that_go_the_same_way_are_summed(self):
        self.tells([[(2, 2, 7)], [(0, 0, 7)]], stream_of, [([2, 0], 3), ([2, 0], 4)])
        self.tells(JOINED, stream_of, [([0, 1, 1], 1), ([1, 0, 1], 1)])

    def test_drawn_mixes_there_and_back(self):
        draw = random.Random(4)
        for hosts, fields in SIZES:
            for many in (1, 2, 5, 30):
                mix = drawn_mix(draw, hosts, fields, many)
                stream = stream_by_words(mix)
                self.tells(stream, stream_of, mix)
                self.tells(True, is_stream, hosts, fields, stream)
                self.tells(shares_by_words(mix), shares_of, stream)
                apart = self.takes_apart(stream)
                self.assertEqual(shares_by_words(apart), shares_by_words(mix))
                self.assertEqual(sum(weight for plan, weight in apart), sum(weight for plan, weight in mix))

    def test_weights_of_whatever_size(self):
        great = 10 ** 400
        mix = [([2, 1], great), ([0, 3], 1), ([2, 1], great + 1)]
        self.tells([[(3, 0, 1), (3, 2, 2 * great + 1)], [(1, 1, 2 * great + 1), (3, 3, 1)]], stream_of, mix)

    def test_many_plans(self):
        draw = random.Random(5)
        mix = drawn_mix(draw, 40, 8, 2000)
        self.takes_apart(stream_of(mix))


class IsStreamTest(MixesTest):
    def is_none(self, stream, hosts=3, fields=3):
        self.tells(False, is_stream, hosts, fields, stream)
        self.refused("NoStream", taken_apart, stream)
        self.refused("NoStream", shares_of, stream)

    def test_by_hand(self):
        self.tells(True, is_stream, 3, 3, STREAM)
        self.tells(True, is_stream, 2, 3, JOINED)
        self.tells(True, is_stream, 0, 1, [[(0, 0, 1)]])
        self.tells(True, is_stream, 40, 1, [[(40, 40, BIG)]])
        self.tells(True, is_stream, 0, 8, [[(0, 0, 3)]] * 8)
        self.tells(True, is_stream, 1, 2, [[(1, 0, 10 ** 300)], [(1, 1, 10 ** 300)]])

    def test_of_these_hosts_and_fields_alone(self):
        for hosts in (0, 1, 2, 4, 40):
            self.tells(False, is_stream, hosts, 3, STREAM)
        for fields in (1, 2, 4, 8):
            self.tells(False, is_stream, 3, fields, STREAM)
        # Nothing is refused somewhat beyond the bounds: there too it is told what is so.
        self.tells(True, is_stream, 41, 1, [[(41, 41, 1)]])
        self.tells(True, is_stream, 0, 9, [[(0, 0, 1)]] * 9)
        self.tells(False, is_stream, 41, 1, [[(40, 40, 1)]])
        self.tells(False, is_stream, -1, 1, [[(-1, -1, 1)]])
        self.tells(False, is_stream, 0, 0, [])

    def test_a_field_too_many_or_too_few(self):
        more = STREAM + [[(0, 0, 7)]]
        self.tells(True, is_stream, 3, 4, more)
        self.tells(False, is_stream, 3, 3, more)
        self.is_none(STREAM[:-1], 3, 2)
        self.is_none(STREAM[:-1])
        self.is_none(STREAM[1:], 3, 2)
        self.is_none([], 3, 0)
        self.is_none([])
        self.is_none(STREAM + [[]], 3, 4)

    def test_nothing_flows(self):
        self.is_none([[]], 0, 1)
        self.is_none([[], [], []], 0)
        self.is_none([[], [], []])
        self.is_none([[(3, 3, 4)], [], [(0, 0, 4)]])

    def test_flow_from_one_on(self):
        # A flow of 0 lets all sums be as they were; one below 0 is made good by others.
        self.is_none([[(3, 0, 1), (3, 1, 2), (3, 2, 0), (3, 3, 4)]] + STREAM[1:])
        self.is_none([STREAM[0], [(0, 0, 4), (2, 1, 2), (2, 2, 0), (3, 2, 1)], STREAM[2]])
        self.is_none(STREAM[:2] + [[(0, 0, 4), (1, 1, 3), (2, 2, 0)]])
        self.is_none([[(0, 0, 0)]], 0, 1)
        self.is_none([[(0, 0, -1)]], 0, 1)
        self.is_none([[(1, 0, 2), (1, 1, -1)], [(0, 0, -1), (1, 1, 2)]], 1, 2)
        self.is_none([[(2, 0, 1)], [(2, 0, 3), (2, 1, -2)], [(1, 1, -2), (2, 2, 3)]], 2)

    def test_sent_from_none_to_left(self):
        self.is_none([[(2, -1, 1)], [(3, 3, 1)]], 2, 2)
        self.is_none([[(2, 3, 1)], [(-1, -1, 1)]], 2, 2)
        self.is_none([[(1, 2, 1)], [(-1, -2, 1)], [(1, 1, 1)]], 1)
        self.is_none([[(0, 1, 1)], [(-1, 0, 1)], [(-1, -1, 1)]], 0)
        self.is_none([[(2, 1, 1)], [(1, 2, 1)]], 2, 2)
        self.is_none([[(3, -1, 4), (3, 0, 1)], [(3, 3, 1), (4, 4, 4)]], 3, 2)

    def test_rising(self):
        for field, row in enumerate(STREAM):
            for place in range(len(row) - 1):
                turned = row[:place] + [row[place + 1], row[place]] + row[place + 2:]
                self.is_none(STREAM[:field] + [turned] + STREAM[field + 1:])
            self.is_none(STREAM[:field] + [row[::-1]] + STREAM[field + 1:])

    def test_told_twice(self):
        for field, row in enumerate(STREAM):
            for place, (left, sent, flow) in enumerate(row):
                for parts in ((flow, flow), (1, flow - 1), (flow - 1, 1)):
                    if min(parts) >= 1:
                        twice = [(left, sent, part) for part in parts]
                        self.is_none(STREAM[:field] + [row[:place] + twice + row[place + 1:]] + STREAM[field + 1:])

    def test_each_flow_meets_those_ahead(self):
        for field, row in enumerate(STREAM):
            for place, (left, sent, flow) in enumerate(row):
                for other in (flow - 1, flow + 1, flow + BIG):
                    bent = row[:place] + [(left, sent, other)] + row[place + 1:]
                    self.is_none(STREAM[:field] + [bent] + STREAM[field + 1:])
                self.is_none(STREAM[:field] + [row[:place] + row[place + 1:]] + STREAM[field + 1:])
                self.is_none(STREAM[:field] + [row[:place]] + STREAM[field + 1:])

    def test_flows_of_the_same_whole_that_do_not_meet(self):
        self.is_none([STREAM[0], [(0, 0, 3), (2, 1, 3), (3, 2, 1)], [(0, 0, 3), (1, 1, 4)]])
        self.is_none([STREAM[0], [(0, 0, 4), (2, 1, 1), (3, 2, 2)], STREAM[2]])
        self.is_none(STREAM[:2] + [[(0, 0, 3), (1, 1, 4)]])
        self.is_none([STREAM[0], [(0, 0, 4), (1, 0, 3)], STREAM[2]])

    def test_a_number_of_hosts_that_none_left(self):
        self.is_none([STREAM[0], STREAM[1] + [(5, 5, 1)], STREAM[2]])
        self.is_none(STREAM[:2] + [STREAM[2] + [(2, 2, 1)]])

    def test_nothing_left_behind_the_last_field(self):
        self.is_none(STREAM[:2] + [[(0, 0, 4), (1, 0, 3)]])
        self.is_none(STREAM[:2] + [[(0, 0, 4), (1, 0, 1), (1, 1, 2)]])
        self.is_none([[(3, 2, 1)]], 3, 1)
        self.is_none([[(3, 2, 1), (3, 3, 1)]], 3, 1)

    def test_all_hosts_are_left_ahead_of_the_first_field(self):
        for hosts in (2, 3):
            self.is_none([[(2, 2, 1), (3, 3, 1)], [(0, 0, 2)]], hosts, 2)
            self.is_none([[(2, 2, 1), (3, 3, 1)]], hosts, 1)

    def test_something_of_another_kind_at_each_place(self):
        for stream, hosts in ((STREAM, 3), (JOINED, 2)):
            for bent in bent_at_each_place(stream):
                self.is_none(bent, hosts)
        for bent in bent_at_each_place([[(1, 1, 1)]]):
            self.is_none(bent, 1, 1)
        for bent in bent_at_each_place([[(0, 0, 1)]]):
            self.is_none(bent, 0, 1)

    def test_tuples_of_three(self):
        for field, row in enumerate(STREAM):
            for place, flow in enumerate(row):
                for other in (flow[:2], flow[1:], flow + (1,), flow + flow, (flow,), flow[:2] + (flow[2:],)):
                    self.is_none(STREAM[:field] + [row[:place] + [other] + row[place + 1:]] + STREAM[field + 1:])

    def test_a_list_within_itself(self):
        knot = []
        knot.append(knot)
        for stream in (knot, [knot], [[knot]], [[(knot, 0, 1)]], [[(0, 0, 1)], knot]):
            self.assertIs(is_stream(0, len(stream), stream), False)
            self.refused("NoStream", taken_apart, stream)
            self.refused("NoMix", stream_of, stream)

    def test_what_is_taken_apart_is_at_most_forty_hosts_on_eight_fields(self):
        self.tells([([40], 1)], taken_apart, [[(40, 40, 1)]])
        self.tells([([0] * 8, 1)], taken_apart, [[(0, 0, 1)]] * 8)
        for stream in ([[(41, 41, 1)]], [[(0, 0, 1)]] * 9, [[(BIG, BIG, 1)]], [[(41, 1, 1)], [(40, 40, 1)]]):
            self.refused("NoStream", taken_apart, stream)
            self.refused("NoStream", shares_of, stream)


class TakenApartTest(MixesTest):
    def test_by_hand(self):
        self.tells([([3], 7)], taken_apart, [[(3, 3, 7)]])
        self.tells([([0, 2, 0], 2)], taken_apart, [[(2, 0, 2)], [(2, 2, 2)], [(0, 0, 2)]])
        self.assertEqual(sorted(self.takes_apart(STREAM)), sorted(MIX))
        self.assertEqual(sorted(self.takes_apart(JOINED)), [([0, 1, 1], 1), ([1, 0, 1], 1)])

    def test_a_plan_that_stood_twice_stands_once(self):
        self.tells([([1, 1], 3 + BIG)], taken_apart, stream_of([([1, 1], 1), ([1, 1], BIG), ([1, 1], 2)]))

    def test_all_plans_of_small_hosts_are_told_by_fewer(self):
        draw = random.Random(6)
        for hosts, fields in ((1, 2), (2, 2), (3, 3), (4, 4), (6, 4), (3, 6)):
            plans = all_plans(hosts, fields)
            self.takes_apart(stream_of([(plan, 1) for plan in plans]))
            self.takes_apart(stream_of([(plan, draw.randint(1, BIG)) for plan in plans]))

    def test_all_plans_of_forty_hosts_on_eight_fields(self):
        self.assertEqual(stream_of_all_plans(3, 3), stream_of([(plan, 1) for plan in all_plans(3, 3)]))
        stream = stream_of_all_plans(40, 8)
        self.tells(True, is_stream, 40, 8, stream)
        mix = self.takes_apart(stream)
        self.assertEqual(sum(weight for plan, weight in mix), math.comb(47, 7))
        self.tells(shares_by_words(mix), shares_of, stream)


class SharesTest(MixesTest):
    def test_by_hand(self):
        self.tells([[1, 2, 0, 4], [4, 2, 1, 0], [4, 3, 0, 0]], shares_of, STREAM)
        self.tells([[9]], shares_of, [[(0, 0, 9)]])
        self.tells([[0, 0, 1]], shares_of, [[(2, 2, 1)]])

    def test_flows_of_unlike_left_are_summed(self):
        stream = stream_of([([0, 1, 2], 3), ([1, 1, 1], 5), ([2, 1, 0], 7)])
        self.tells([[3, 5, 7, 0], [0, 15, 0, 0], [7, 5, 3, 0]], shares_of, stream)


class NoMixTest(MixesTest):
    def test_what_is_no_list_of_tuples_of_a_plan_and_a_weight(self):
        for mix in ([], [()], [([1],)], [([1], 1, 1)], [[[1], 1]], (([1], 1),), [(1, [1])], [([], 1)], [[]],
                    [([1], 1), ()]):
            self.refused("NoMix", stream_of, mix)

    def test_something_of_another_kind_at_each_place(self):
        for mix in (MIX, [([1, 0], 1)], [([0], 1), ([0], 1)]):
            self.told(stream_of, mix)
            for bent in bent_at_each_place(mix):
                self.refused("NoMix", stream_of, bent)

    def test_weights_from_one_on(self):
        for place in range(3):
            for weight in (0, -1, -BIG):
                mix = list(MIX)
                mix[place] = (mix[place][0], weight)
                self.refused("NoMix", stream_of, mix)

    def test_plans_of_one_side(self):
        for plan in ([1, 1, 2], [1, 1, 0], [0, 0, 0], [3, 0], [3, 0, 0, 0], [3], [], [4, -1, 0], [-1, 2, 2],
                     [BIG, 0, 0]):
            for place in range(4):
                self.refused("NoMix", stream_of, MIX[:place] + [(plan, 1)] + MIX[place:])
        for plan in ([-1], [1, -1], [-3, 3]):
            self.refused("NoMix", stream_of, [(plan, 1)])

    def test_at_most_forty_hosts_on_eight_fields(self):
        for plan in ([40], [0] * 8, [5] * 8, [0] * 7 + [40]):
            self.takes_apart(self.told(stream_of, [(plan, 1)]))
        for plan in ([41], [0] * 9, [20, 21], [5] * 7 + [6], [1] * 9, [BIG], [0] * 7 + [41]):
            self.refused("NoMix", stream_of, [(plan, 1)])
            self.refused("NoMix", stream_of, [(plan, 1), (list(plan), 1)])

    def test_a_stream_is_no_mix_and_a_mix_no_stream(self):
        self.refused("NoMix", stream_of, STREAM)
        self.refused("NoStream", taken_apart, MIX)
        self.refused("NoStream", shares_of, MIX)
        self.tells(False, is_stream, 3, 3, MIX)


class KeptTest(MixesTest):
    def test_what_was_handed_in_may_be_changed_behind(self):
        mix = [([1, 1], 2), ([2, 0], 1)]
        stream = stream_of(mix)
        kept = repr(stream)
        mix[0][0][0] = 0
        mix[0][0][1] = 2
        mix.pop()
        self.assertEqual(repr(stream), kept)
        self.tells([[(2, 0, 2)], [(2, 2, 2)]], stream_of, mix)
        apart = taken_apart(stream)
        shares = shares_of(stream)
        kept = repr((apart, shares))
        stream[0].pop()
        stream.append([])
        self.assertEqual(repr((apart, shares)), kept)
        self.refused("NoStream", taken_apart, stream)

    def test_one_list_may_stand_at_several_places(self):
        plan = [1, 1]
        part = (plan, 2)
        self.tells([[(2, 1, 6)], [(1, 1, 6)]], stream_of, [part, part, (plan, 2)])
        row = [(0, 0, 1)]
        self.tells([([0, 0, 0], 1)], taken_apart, [row, row, row])
        self.tells([[1], [1], [1]], shares_of, [row, row, row])


if __name__ == "__main__":
    unittest.main()
