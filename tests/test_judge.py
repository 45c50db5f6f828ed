import random
import unittest
from fractions import Fraction

from hostfields.judge import judged
from hostfields.mixes import stream_of
from helper import (BIG, SIDES, HostTest, bent_at_each_place, best_table, drawn_battle, drawn_mix, due, pair, papers,
                    shown_by_all_plans)

# The first side draws one of two plans, the second one has a single host: by hand, each due is told beside it.
BATTLE = (2, 1, [("more", 3, 0), ("more", 3, 0)])
STREAM = [[(2, 1, 1), (2, 2, 1)], [(0, 0, 1), (1, 1, 1)]]
# Dues: on field 0 with none there 6, with one 3; on field 1 with none there 3, with one -3.
TABLE = [[9, 3], [3, -3]]
WORTH = (3, 2)
PAPER = (STREAM, TABLE)

# The second side of the same battle: one host on either field as often.
OTHER_STREAM = [[(1, 0, 1), (1, 1, 1)], [(0, 0, 1), (1, 1, 1)]]
# Dues: on each field with none there -3, with one 3, with two 6.
OTHER_TABLE = [[-6, 0, 6], [-3, 3, 6]]


def changed(table, field, count, by):
    told = [list(row) for row in table]
    told[field][count] += by
    return told


class JudgeTest(HostTest):
    def test_by_hand(self):
        self.tells(None, judged, BATTLE, "first", WORTH, PAPER)
        self.tells(("worth",), judged, BATTLE, "first", (31, 20), PAPER)
        self.tells(("worth",), judged, BATTLE, "first", (2, 1), PAPER)
        self.tells(None, judged, BATTLE, "first", (29, 20), PAPER)
        self.tells(None, judged, BATTLE, "first", (-100, 1), PAPER)

    def test_by_hand_for_the_second_side(self):
        paper = (OTHER_STREAM, OTHER_TABLE)
        self.tells(None, judged, BATTLE, "second", (3, 1), paper)
        self.tells(None, judged, BATTLE, "second", (4, 1), paper)
        self.tells(("worth",), judged, BATTLE, "second", (29, 10), paper)
        self.tells(("worth",), judged, BATTLE, "second", (-3, 1), paper)
        for answer, field, count, by in ((("number", 1, 1), 1, 1, -1), (("number", 0, 1), 1, 1, 1),
                                         (("number", 0, 2), 0, 2, -1), (("worth",), 0, 2, 1), (None, 0, 0, 1)):
            bent = (OTHER_STREAM, changed(OTHER_TABLE, field, count, by))
            self.tells(answer, judged, BATTLE, "second", (3, 1), bent)

    def test_each_answer_by_a_paper_that_fails_in_just_that(self):
        self.tells(("paper",), judged, BATTLE, "first", WORTH, PAPER + (TABLE,))
        self.tells(("stream",), judged, BATTLE, "first", WORTH, (STREAM[:1] + [[(0, 0, 1), (1, 0, 1)]], TABLE))
        self.tells(("table",), judged, BATTLE, "first", WORTH, (STREAM, [[9, 3, 0], [3, -3]]))
        self.tells(("number", 0, 0), judged, BATTLE, "first", WORTH, (STREAM, [[10, 3], [3, -3]]))
        self.tells(("number", 0, 1), judged, BATTLE, "first", WORTH, (STREAM, [[9, 4], [3, -3]]))
        self.tells(("number", 1, 0), judged, BATTLE, "first", WORTH, (STREAM, [[9, 3], [4, -3]]))
        self.tells(("number", 1, 1), judged, BATTLE, "first", WORTH, (STREAM, [[9, 3], [3, -2]]))
        self.tells(("worth",), judged, BATTLE, "first", WORTH, (STREAM, [[9, 2], [3, -3]]))

    def test_the_first_that_is_not_so(self):
        bad = [[(2, 2, 0)], [(0, 0, 0)]]
        self.tells(("paper",), judged, BATTLE, "first", WORTH, (bad, [], 0))
        self.tells(("stream",), judged, BATTLE, "first", WORTH, (bad, []))
        self.tells(("table",), judged, BATTLE, "first", (99, 1), (STREAM, [[10, 4], [4]]))
        self.tells(("number", 0, 0), judged, BATTLE, "first", (99, 1), (STREAM, [[11, 10], [4, 4]]))
        self.tells(("number", 0, 1), judged, BATTLE, "first", (99, 1), (STREAM, [[7, 10], [4, 4]]))
        self.tells(("number", 1, 0), judged, BATTLE, "first", (99, 1), (STREAM, [[7, 3], [4, 4]]))
        self.tells(("number", 1, 1), judged, BATTLE, "first", (99, 1), (STREAM, [[7, 3], [3, 4]]))

    def test_refusals_and_their_order(self):
        for side in ("", "third", "First", "FIRST", "first ", " second", "firstsecond", "f", "second\n"):
            self.refused("NoSide", judged, BATTLE, side, WORTH, PAPER)
            self.refused("NoSide", judged, BATTLE, side, WORTH, None)
            error = self.refused("NoBattle", judged, (2, 1, [("more", 3, 0), ("more", 0, 0)]), side, WORTH, None)
            self.assertEqual(error.field, 1)
            self.assertEqual(self.refused("NoBattle", judged, (11, 1, []), side, WORTH, PAPER).field, -1)

    def test_drawn_papers_show_what_all_plans_show(self):
        for battle, side, mix, paper in papers():
            shown = shown_by_all_plans(battle, side, mix)
            worse = 1 if side == "first" else -1
            self.tells(None, judged, battle, side, pair(shown), paper)
            whole = sum(weight for plan, weight in mix)
            for part in (1, Fraction(1, 10 ** 30), Fraction(1, 10 ** 300), Fraction(1, whole), Fraction(1, whole + 1)):
                self.tells(("worth",), judged, battle, side, pair(shown + worse * part), paper)
                self.tells(None, judged, battle, side, pair(shown - worse * part), paper)

    def test_each_number_one_too_great_or_too_small(self):
        for battle, side, mix, (stream, table) in papers():
            worth = pair(shown_by_all_plans(battle, side, mix))
            wrong = 1 if side == "first" else -1
            for field, row in enumerate(table):
                for count in range(len(row)):
                    bent = changed(table, field, count, wrong)
                    self.tells(("number", field, count), judged, battle, side, worth, (stream, bent))
                    bent = changed(table, field, count, -wrong)
                    answer = self.told(judged, battle, side, worth, (stream, bent))
                    self.assertEqual(answer, self.behind_a_lesser(table, field, count, battle, side, stream))

    def behind_a_lesser(self, table, field, count, battle, side, stream):
        """What a number that gives one away makes wrong: the first ahead of it that leans on it, or the worth."""
        if field == 0:
            return ("worth",) if count == len(table[0]) - 1 else None
        for more in range(count, len(table[0])):
            leant_on = due(battle, field - 1, side, stream, more - count) + table[field][count]
            if table[field - 1][more] == leant_on:
                return ("number", field - 1, more)
        return None

    def test_tables_that_give_away_more_are_right_too(self):
        draw = random.Random(12)
        for battle, side, mix, (stream, table) in papers():
            away = -1 if side == "first" else 1
            # The further ahead, the more is given away: so no number leans on one that gives away more.
            step = draw.randint(1, BIG)
            loose = [[number + away * step * (len(table) - field) for number in row] for field, row in enumerate(table)]
            whole = sum(weight for plan, weight in mix)
            number = loose[0][-1]
            self.tells(None, judged, battle, side, pair(Fraction(number, whole)), (stream, loose))
            shown = pair(shown_by_all_plans(battle, side, mix))
            self.tells(("worth",), judged, battle, side, shown, (stream, loose))

    def test_numbers_of_some_hundred_figures(self):
        great = 10 ** 700 + 7
        stream = [[(left, sent, flow * great) for left, sent, flow in row] for row in STREAM]
        table = [[number * great for number in row] for row in TABLE]
        self.tells(None, judged, BATTLE, "first", WORTH, (stream, table))
        self.tells(None, judged, BATTLE, "first", (3 * great - 1, 2 * great), (stream, table))
        self.tells(("worth",), judged, BATTLE, "first", (3 * great + 1, 2 * great), (stream, table))
        self.tells(("worth",), judged, BATTLE, "first", (great, 1), PAPER)
        self.tells(None, judged, BATTLE, "first", (-great, 1), PAPER)
        self.tells(("worth",), judged, BATTLE, "first", WORTH, (stream, changed(table, 0, 1, -1)))
        for field in range(2):
            for count in range(2):
                bent = (stream, changed(table, field, count, 1))
                self.tells(("number", field, count), judged, BATTLE, "first", WORTH, bent)
        self.tells(("number", 0, 0), judged, BATTLE, "first", WORTH, (stream, changed(table, 1, 0, -1)))
        self.tells(("number", 1, 0), judged, BATTLE, "first", WORTH, (STREAM, changed(TABLE, 1, 0, great)))

    def test_no_plan_does_better_where_none_is_told(self):
        # Whoever wrote the paper: numbers and worths are drawn, not reckoned.
        draw = random.Random(13)
        seen = {"let by": 0, "refused": 0}
        for trial in range(3000):
            battle = drawn_battle(trial, draw.randint(0, 3), draw.randint(0, 3), draw.randint(1, 3), 2)
            side = draw.choice(SIDES)
            own = battle[0] if side == "first" else battle[1]
            mix = [(plan, draw.randint(1, 3)) for plan, weight in drawn_mix(draw, own, len(battle[2]), 2)]
            stream = stream_of(mix)
            away = -1 if side == "first" else 1
            table = [[number + away * draw.choice((-1, 0, 0, 0, 1, 2)) * (len(battle[2]) - field) for number in row]
                     for field, row in enumerate(best_table(battle, side, stream))]
            worth = Fraction(table[0][-1] + draw.choice((-1, 0, 0, 1)), sum(weight for plan, weight in mix))
            if judged(battle, side, pair(worth), (stream, table)) is None:
                seen["let by"] += 1
                shown = shown_by_all_plans(battle, side, mix)
                self.assertTrue(shown >= worth if side == "first" else shown <= worth)
            else:
                seen["refused"] += 1
        self.assertGreater(min(seen.values()), 300)

    def test_something_of_another_kind_at_each_place(self):
        for bent in bent_at_each_place(PAPER):
            answer = ("paper",)
            if isinstance(bent, tuple) and len(bent) == 2:
                answer = ("stream",) if repr(bent[0]) != repr(STREAM) else ("table",)
            self.tells(answer, judged, BATTLE, "first", WORTH, bent)

    def test_a_paper_is_a_tuple_of_two(self):
        for paper in (None, True, 0, "paper", "ab", (), [], (STREAM,), [STREAM, TABLE], (STREAM, TABLE, None), [PAPER],
                      (PAPER,), STREAM, TABLE):
            self.tells(("paper",), judged, BATTLE, "first", WORTH, paper)

    def test_the_stream_is_one_of_the_sides_hosts_over_the_battles_fields(self):
        for stream in (OTHER_STREAM, [[(2, 2, 1)]], [[(2, 2, 1)], [(0, 0, 1)], [(0, 0, 1)]], [[(3, 3, 1)], [(0, 0, 1)]],
                       [], None, TABLE):
            self.tells(("stream",), judged, BATTLE, "first", WORTH, (stream, TABLE))
        self.tells(("stream",), judged, BATTLE, "second", WORTH, PAPER)
        self.tells(("stream",), judged, BATTLE, "second", WORTH, (STREAM, OTHER_TABLE))

    def test_the_table_has_a_number_for_each_field_and_count(self):
        for table in ([], [[9, 3]], [[9, 3], []], [[9], [3, -3]], [[9, 3], [3]], [[9, 3], [3, -3], []],
                      [[9, 3, 0], [3, -3]], [[9, 3], [3, -3, -9]], [[9, 3], [3, -3], [3, -3]], OTHER_TABLE,
                      [[9, 3], (3, -3)], STREAM, 0):
            self.tells(("table",), judged, BATTLE, "first", WORTH, (STREAM, table))
        self.tells(("table",), judged, BATTLE, "second", WORTH, (OTHER_STREAM, TABLE))

    def test_no_hosts(self):
        battle = (0, 0, [("table", [[5]])])
        for side, one_more in (("first", 1), ("second", -1)):
            self.tells(None, judged, battle, side, (5, 1), ([[(0, 0, 2)]], [[10]]))
            self.tells(("worth",), judged, battle, side, (5 + one_more, 1), ([[(0, 0, 2)]], [[10]]))
            self.tells(("number", 0, 0), judged, battle, side, (5, 1), ([[(0, 0, 2)]], [[10 + one_more]]))

    def test_papers_of_both_sides_leave_one_worth(self):
        # Something is won only where both hosts meet, 2 on field 0, 1 on field 1: so both go to field 1 twice as often.
        battle = (1, 1, [("table", [[0, 0], [0, 2]]), ("table", [[0, 0], [0, 1]])])
        stream = [[(1, 0, 2), (1, 1, 1)], [(0, 0, 1), (1, 1, 2)]]
        worth = (2, 3)
        first = (stream, [[0, 2], [0, 2]])
        second = (stream, [[0, 2], [0, 2]])
        self.tells(None, judged, battle, "first", worth, first)
        self.tells(None, judged, battle, "second", worth, second)
        for more in (Fraction(1, BIG), Fraction(1, 3), 5):
            self.tells(("worth",), judged, battle, "first", pair(Fraction(*worth) + more), first)
            self.tells(("worth",), judged, battle, "second", pair(Fraction(*worth) - more), second)

    def test_the_greatest_battle(self):
        draw = random.Random(14)
        battle = drawn_battle(15, 10, 10, 5, BIG)
        for side in SIDES:
            mix = drawn_mix(draw, 10, 5, 60)
            stream = stream_of(mix)
            table = best_table(battle, side, stream)
            worth = pair(Fraction(table[0][10], sum(weight for plan, weight in mix)))
            self.tells(None, judged, battle, side, worth, (stream, table))
            wrong = 1 if side == "first" else -1
            for field in range(5):
                for count in range(11):
                    bent = changed(table, field, count, wrong)
                    self.tells(("number", field, count), judged, battle, side, worth, (stream, bent))

    def test_what_was_handed_in_may_be_changed_behind(self):
        stream = [list(row) for row in STREAM]
        table = [list(row) for row in TABLE]
        self.tells(None, judged, BATTLE, "first", WORTH, (stream, table))
        table[1][1] += 1
        self.tells(("number", 1, 1), judged, BATTLE, "first", WORTH, (stream, table))
        stream[1].pop()
        self.tells(("stream",), judged, BATTLE, "first", WORTH, (stream, table))


if __name__ == "__main__":
    unittest.main()
