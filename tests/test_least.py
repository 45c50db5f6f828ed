import random
import unittest
from fractions import Fraction

from hostfields.judge import judged
from hostfields.least import answer_table, best_answer, shown
from hostfields.mixes import stream_of
from helper import (BIG, SIDES, HostTest, all_plans, average, bent_at_each_place, best_table, drawn_battle, drawn_mix,
                    due, pair, papers, shown_by_all_plans, table)

CALLS = (answer_table, shown, best_answer)

BATTLE = (2, 1, [("more", 3, 0), ("more", 3, 0)])
STREAM = [[(2, 1, 1), (2, 2, 1)], [(0, 0, 1), (1, 1, 1)]]
OTHER_STREAM = [[(1, 0, 1), (1, 1, 1)], [(0, 0, 1), (1, 1, 1)]]


def least_by_all_plans(battle, side, stream, field, count):
    """What point 17 asks at a field and a count, by going through all plans of so many hosts from this field on."""
    best = min if side == "first" else max
    plans = all_plans(count, len(battle[2]) - field)
    return best(sum(due(battle, field + place, side, stream, sent) for place, sent in enumerate(plan))
                for plan in plans)


class LeastTest(HostTest):
    def answers(self, battle, side, mix):
        """See that all three answers are what the document asks of this mix's stream; tell what is shown."""
        stream = stream_of(mix)
        rows = self.told(answer_table, battle, side, stream)
        others = battle[1] if side == "first" else battle[0]
        self.assertEqual(rows, best_table(battle, side, stream))
        self.assertEqual([len(row) for row in rows], [others + 1] * len(battle[2]))
        whole = sum(weight for plan, weight in mix)
        worth = Fraction(rows[0][-1], whole)
        self.tells(pair(worth), shown, battle, side, stream)
        worse = 1 if side == "first" else -1
        self.assertIsNone(judged(battle, side, pair(worth), (stream, rows)))
        for little in (1, Fraction(1, whole), Fraction(1, 10 ** 900)):
            self.assertEqual(judged(battle, side, pair(worth + worse * little), (stream, rows)), ("worth",))
        plan = self.told(best_answer, battle, side, stream)
        self.assertEqual([type(plan), len(plan), sum(plan)], [list, len(battle[2]), others])
        self.assertTrue(all(type(sent) is int and sent >= 0 for sent in plan))
        self.assertEqual(average(battle, side, mix, plan), worth)
        return worth

    def test_by_hand(self):
        self.tells([[9, 3], [3, -3]], answer_table, BATTLE, "first", STREAM)
        self.tells((3, 2), shown, BATTLE, "first", STREAM)
        self.tells([0, 1], best_answer, BATTLE, "first", STREAM)
        self.tells([[-6, 0, 6], [-3, 3, 6]], answer_table, BATTLE, "second", OTHER_STREAM)
        self.tells((3, 1), shown, BATTLE, "second", OTHER_STREAM)
        # Sent to one field, 6 and -3 come together; parted, 3 and 3.
        self.tells([1, 1], best_answer, BATTLE, "second", OTHER_STREAM)

    def test_each_number_by_all_plans(self):
        for battle, side, mix, paper in papers():
            self.answers(battle, side, mix)
            stream = stream_of(mix)
            for field, row in enumerate(answer_table(battle, side, stream)):
                for count, number in enumerate(row):
                    self.assertEqual(number, least_by_all_plans(battle, side, stream, field, count))
            self.assertEqual(shown(battle, side, stream), pair(shown_by_all_plans(battle, side, mix)))

    def test_more_hosts_are_not_always_better(self):
        # The table falls with the second side's hosts and rises again: the least is in the middle.
        battle = (1, 4, [table(1, 4, lambda x, y: (y - 2) ** 2), table(1, 4, lambda x, y: 10 * y)])
        mix = [([1, 0], 1)]
        self.tells([[4, 1, 0, 1, 4], [0, 10, 20, 30, 40]], answer_table, battle, "first", stream_of(mix))
        self.tells([4, 0], best_answer, battle, "first", stream_of(mix))
        self.answers(battle, "first", mix)

    def test_no_hosts(self):
        draw = random.Random(61)
        for first, second in ((0, 0), (0, 5), (5, 0)):
            for fields in range(1, 6):
                for most in (1, BIG):
                    battle = drawn_battle(f"{first} {second} {fields} {most}", first, second, fields, most)
                    for side, own in (("first", first), ("second", second)):
                        self.answers(battle, side, drawn_mix(draw, own, fields, 4))

    def test_one_field(self):
        draw = random.Random(62)
        for first, second in ((1, 1), (3, 7), (10, 10), (10, 2)):
            battle = drawn_battle(f"{first} {second}", first, second, 1)
            for side, own, others in (("first", first, second), ("second", second, first)):
                worth = self.answers(battle, side, drawn_mix(draw, own, 1, 3))
                self.tells([others], best_answer, battle, side, [[(own, own, 7)]])
                self.tells(pair(worth), shown, battle, side, [[(own, own, BIG)]])

    def test_ten_hosts_a_side_and_five_fields(self):
        draw = random.Random(63)
        for trial in range(6):
            battle = drawn_battle(trial, 10, 10, 5, draw.choice((2, 9, BIG)))
            for side in SIDES:
                mix = drawn_mix(draw, 10, 5, draw.choice((1, 7, 300)))
                self.told_soon(best_answer, battle, side, stream_of(mix))
                self.answers(battle, side, mix)

    def test_flows_of_some_hundred_figures(self):
        draw = random.Random(64)
        for trial in range(8):
            battle = drawn_battle(f"great {trial}", 4, 5, 3, draw.choice((3, BIG)))
            for side, own in (("first", 4), ("second", 5)):
                mix = [(plan, weight * draw.randint(10 ** 700, 10 ** 701))
                       for plan, weight in drawn_mix(draw, own, 3, 5)]
                self.answers(battle, side, mix)
                worth = shown(battle, side, stream_of(mix))
                self.assertEqual(worth, pair(shown_by_all_plans(battle, side, mix)))

    def test_another_share_of_the_same_stream(self):
        # Flows that are all so many times as great show the same.
        for many in (2, BIG, 10 ** 900):
            stream = [[(left, sent, flow * many) for left, sent, flow in row] for row in STREAM]
            self.tells((3, 2), shown, BATTLE, "first", stream)
            self.tells([0, 1], best_answer, BATTLE, "first", stream)
            self.tells([[9 * many, 3 * many], [3 * many, -3 * many]], answer_table, BATTLE, "first", stream)

    def test_what_is_no_stream_of_the_side_is_refused(self):
        more_hosts = [[(3, 3, 1)], [(0, 0, 1)]]
        more_fields = [[(2, 2, 1)], [(0, 0, 1)], [(0, 0, 1)]]
        fewer_fields = [[(2, 2, 1)]]
        leaps = [[(2, 1, 1), (2, 2, 1)], [(0, 0, 2)]]
        for wrong in (OTHER_STREAM, more_hosts, more_fields, fewer_fields, leaps, [], None, True, 0, "", "stream", (),
                      [[]], [[], []], [None, None], (STREAM, [[9, 3], [3, -3]])):
            for call in CALLS:
                self.refused("NoStream", call, BATTLE, "first", wrong)
        for call in CALLS:
            self.refused("NoStream", call, BATTLE, "second", STREAM)

    def test_something_of_another_kind_at_each_place(self):
        for bent in bent_at_each_place(STREAM):
            for call in CALLS:
                self.refused("NoStream", call, BATTLE, "first", bent)

    def test_refusals_in_their_order(self):
        for call in CALLS:
            for side in ("", "third", "First", "first ", "second\n"):
                for stream in (STREAM, None, []):
                    self.refused("NoSide", call, BATTLE, side, stream)
                    error = self.refused("NoBattle", call, (2, 1, [("more", 3, 0), ("more", 0, 0)]), side, stream)
                    self.assertEqual(error.field, 1)
                    self.assertEqual(self.refused("NoBattle", call, (2, 11, []), side, stream).field, -1)
            self.assertEqual(self.refused("NoBattle", call, (2, 1, [("none", 3)]), "first", None).field, 0)
            self.assertEqual(self.refused("NoBattle", call, (2, True, [("more", 3, 0)]), "first", STREAM).field, -1)

    def test_what_was_handed_in_may_be_changed_behind(self):
        stream = [list(row) for row in STREAM]
        told = answer_table(BATTLE, "first", stream)
        stream[0][0] = (2, 1, 5)
        stream[1][1] = (1, 1, 5)
        self.assertEqual(told, [[9, 3], [3, -3]])
        self.tells((5, 2), shown, BATTLE, "first", stream)


if __name__ == "__main__":
    unittest.main()
