import itertools
import random
import unittest
from fractions import Fraction

from hostfields.changes import exchanged, host_more, paper_exchanged, paper_scaled, scaled
from hostfields.fields import gain, look_battle, pay
from hostfields.finder import battle_worth
from hostfields.judge import judged
from hostfields.least import shown
from hostfields.mixes import is_stream, stream_of
from helper import BIG, HostTest, all_plans, bent_at_each_place, drawn_battle, drawn_mix, pair, papers

OTHER_SIDE = {"first": "second", "second": "first"}

BATTLE = (2, 1, [("more", 3, 1), ("lead", 5, 2), ("table", [[0, 1], [2, -3], [4, 5]])])
STREAM = [[(2, 1, 1), (2, 2, 1)], [(0, 0, 1), (1, 1, 1)]]
PAPER = (STREAM, [[9, 3], [3, -3]])


def drawn_battles():
    sizes = ((0, 0, 1), (0, 3, 2), (3, 0, 2), (1, 1, 3), (4, 2, 3), (3, 5, 4), (10, 10, 5), (10, 1, 5))
    for seed, size in enumerate(sizes):
        for most in (1, 9, BIG):
            yield drawn_battle(f"changes {seed} {most}", *size, most)


class ExchangedTest(HostTest):
    def test_by_hand(self):
        self.tells((1, 2, [("more", 3, -1), ("lead", 5, -1), ("table", [[0, -2, -4], [-1, 3, -5]])]),
                   exchanged, BATTLE)
        self.tells((0, 0, [("lead", 1, 1)]), exchanged, (0, 0, [("lead", 1, 0)]))
        self.tells((7, 0, [("table", [[-7]] * 8)]), exchanged, (0, 7, [("table", [[7] * 8])]))

    def test_what_the_new_first_wins_is_what_the_old_second_won(self):
        for battle in drawn_battles():
            told = self.told(exchanged, battle)
            look_battle(told)
            self.assertEqual(told[:2], (battle[1], battle[0]))
            self.assertEqual([field[0] for field in told[2]], [field[0] for field in battle[2]])
            for field in range(len(battle[2])):
                for x, y in itertools.product(range(battle[0] + 1), range(battle[1] + 1)):
                    self.assertEqual(pay(told, field, y, x), -pay(battle, field, x, y))

    def test_twice_it_is_the_battle(self):
        for battle in drawn_battles():
            self.tells(battle, exchanged, exchanged(battle))

    def test_one_list_at_several_places(self):
        rows = [[1, 2], [3, 4]]
        self.tells((1, 1, [("table", [[-1, -3], [-2, -4]])] * 3), exchanged, (1, 1, [("table", rows)] * 3))
        row = [1, 2]
        self.tells((1, 1, [("table", [[-1, -1], [-2, -2]])]), exchanged, (1, 1, [("table", [row, row])]))

    def test_the_worth_is_nought_less_the_worth_and_papers_are_let_by(self):
        for seed, size in enumerate(((0, 2, 2), (3, 1, 1), (2, 3, 3), (4, 4, 2), (5, 3, 4))):
            for most in (2, BIG):
                battle = drawn_battle(f"worth {seed} {most}", *size, most)
                worth, one, other = battle_worth(battle)
                less = pair(-Fraction(*worth))
                turned = exchanged(battle)
                self.assertEqual(battle_worth(turned)[0], less)
                self.assertIsNone(judged(turned, "second", less, self.told(paper_exchanged, one)))
                self.assertIsNone(judged(turned, "first", less, self.told(paper_exchanged, other)))

    def test_papers_by_hand(self):
        self.tells((STREAM, [[-9, -3], [-3, 3]]), paper_exchanged, PAPER)
        self.tells(([[(0, 0, 7)]], [[0, BIG]]), paper_exchanged, ([[(0, 0, 7)]], [[0, -BIG]]))

    def test_papers_of_drawn_streams(self):
        for battle, side, mix, paper in papers():
            worth = shown(battle, side, paper[0])
            turned = exchanged(battle)
            told = self.told(paper_exchanged, paper)
            self.assertEqual(told[0], paper[0])
            self.assertIsNone(judged(turned, OTHER_SIDE[side], pair(-Fraction(*worth)), told))
            self.tells(paper, paper_exchanged, told)

    def test_refusals(self):
        for battle, field in (((2, 1, []), -1), ((2, 11, [("more", 1, 0)]), -1), ((2, 1, [("more", 1, 2)]), 0),
                              ((2, 1, [("more", 1, 0), ("lead", 1)]), 1), ((1, 1, [("table", [[0], [0, 0]])]), 0)):
            self.assertEqual(self.refused("NoBattle", exchanged, battle).field, field)

    def test_what_was_handed_in_may_be_changed_behind(self):
        rows = [[1, 2], [3, 4]]
        told = exchanged((1, 1, [("table", rows)]))
        rows[0][0] = 9
        self.assertEqual(told, (1, 1, [("table", [[-1, -3], [-2, -4]])]))


class ScaledTest(HostTest):
    def test_by_hand(self):
        self.tells((2, 1, [("more", 12, 4), ("lead", 20, 2), ("table", [[0, 4], [8, -12], [16, 20]])]),
                   scaled, BATTLE, 4)
        self.tells((2, 1, [("more", 3 * BIG, BIG), ("lead", 5 * BIG, 2),
                           ("table", [[0, BIG], [2 * BIG, -3 * BIG], [4 * BIG, 5 * BIG]])]), scaled, BATTLE, BIG)

    def test_once_it_is_the_battle(self):
        for battle in drawn_battles():
            self.tells(battle, scaled, battle, 1)

    def test_what_is_won_is_so_many_times_as_much(self):
        for battle in drawn_battles():
            for many in (2, 7, BIG):
                told = self.told(scaled, battle, many)
                look_battle(told)
                self.assertEqual(told[:2], battle[:2])
                for field in range(len(battle[2])):
                    for x, y in itertools.product(range(battle[0] + 1), range(battle[1] + 1)):
                        self.assertEqual(pay(told, field, x, y), many * pay(battle, field, x, y))

    def test_what_was_told_may_be_scaled_again(self):
        battle = BATTLE
        for times in range(1, 30):
            battle = self.told(scaled, battle, BIG)
            self.assertEqual(pay(battle, 2, 2, 1), 5 * BIG ** times)

    def test_one_list_at_several_places(self):
        rows = [[1, 2], [3, 4]]
        self.tells((1, 1, [("table", [[2, 4], [6, 8]])] * 3), scaled, (1, 1, [("table", rows)] * 3), 2)
        self.tells((1, 1, [("table", [[1, 2], [3, 4]])] * 3), scaled, (1, 1, [("table", rows)] * 3), 1)

    def test_the_worth_is_so_many_times_as_great_and_papers_are_let_by(self):
        for seed, size in enumerate(((0, 2, 2), (3, 1, 1), (2, 3, 3), (4, 4, 2), (5, 3, 4))):
            for many in (1, 3, BIG):
                battle = drawn_battle(f"scaled {seed}", *size, 9)
                worth, one, other = battle_worth(battle)
                great = pair(Fraction(*worth) * many)
                greater = scaled(battle, many)
                self.assertEqual(battle_worth(greater)[0], great)
                self.assertIsNone(judged(greater, "first", great, self.told(paper_scaled, one, many)))
                self.assertIsNone(judged(greater, "second", great, self.told(paper_scaled, other, many)))

    def test_papers_by_hand(self):
        self.tells((STREAM, [[18, 6], [6, -6]]), paper_scaled, PAPER, 2)
        self.tells(PAPER, paper_scaled, PAPER, 1)
        self.tells((STREAM, [[9 * BIG, 3 * BIG], [3 * BIG, -3 * BIG]]), paper_scaled, PAPER, BIG)

    def test_papers_of_drawn_streams(self):
        for battle, side, mix, paper in papers():
            worth = shown(battle, side, paper[0])
            for many in (1, 5, BIG):
                told = self.told(paper_scaled, paper, many)
                self.assertEqual(told[0], paper[0])
                greater = scaled(battle, many)
                self.assertIsNone(judged(greater, side, pair(Fraction(*worth) * many), told))
                more = Fraction(1 if side == "first" else -1, BIG)
                self.assertEqual(judged(greater, side, pair(Fraction(*worth) * many + more), told), ("worth",))

    def test_other_numbers_are_refused(self):
        for many in (0, -1, -2, -BIG):
            self.refused("NoNumber", scaled, BATTLE, many)
            self.refused("NoNumber", paper_scaled, PAPER, many)

    def test_a_truth_is_no_number_of_times(self):
        for many in (True, False):
            self.refused("NoNumber", scaled, BATTLE, many)
            self.refused("NoNumber", paper_scaled, PAPER, many)

    def test_no_battle_goes_ahead_of_no_number(self):
        for many in (1, 0, -BIG):
            for battle, field in (((2, 1, []), -1), ((2, 11, [("more", 1, 0)]), -1), ((2, 1, [("more", 1, 2)]), 0),
                                  ((2, 1, [("more", 1, 0), ("lead", 1)]), 1)):
                self.assertEqual(self.refused("NoBattle", scaled, battle, many).field, field)

    def test_what_was_handed_in_may_be_changed_behind(self):
        stream = [list(row) for row in STREAM]
        rows = [[9, 3], [3, -3]]
        one = paper_scaled((stream, rows), 1)
        other = paper_exchanged((stream, rows))
        stream[0][0] = (9, 9, 9)
        stream.append([])
        rows[1][1] = 0
        rows.append([])
        self.assertEqual(one, PAPER)
        self.assertEqual(other, (STREAM, [[-9, -3], [-3, 3]]))


class HostMoreTest(HostTest):
    def test_by_hand(self):
        self.tells([[(3, 2, 1), (3, 3, 1)], [(0, 0, 1), (1, 1, 1)]], host_more, STREAM, 0)
        self.tells([[(3, 1, 1), (3, 2, 1)], [(1, 1, 1), (2, 2, 1)]], host_more, STREAM, 1)
        self.tells([[(1, 1, 5)]], host_more, [[(0, 0, 5)]], 0)

    def test_each_plan_sends_one_more_to_the_field(self):
        draw = random.Random(95)
        for hosts, fields in itertools.product((0, 1, 3, 10, 38, 39), (1, 2, 3, 5, 8)):
            mix = drawn_mix(draw, hosts, fields, draw.choice((1, 3, 12)))
            stream = stream_of(mix)
            for field in range(fields):
                more = [(plan[:field] + [plan[field] + 1] + plan[field + 1:], weight) for plan, weight in mix]
                told = self.told(host_more, stream, field)
                self.assertEqual(told, stream_of(more))
                self.assertTrue(is_stream(hosts + 1, fields, told))

    def test_forty_hosts_are_not_refused(self):
        # The document bounds what is handed in by 39, and refuses nothing for it.
        self.tells([[(41, 1, 3)], [(40, 40, 3)]], host_more, [[(40, 0, 3)], [(40, 40, 3)]], 0)

    def test_flows_of_some_hundred_figures(self):
        great = 10 ** 900
        self.tells([[(3, 1, great), (3, 3, 1)], [(0, 0, 1), (2, 2, great)]],
                   host_more, [[(2, 0, great), (2, 2, 1)], [(0, 0, 1), (2, 2, great)]], 0)

    def test_a_field_that_is_not_there(self):
        for stream in (STREAM, [[(0, 0, 1)]], stream_of([([1] * 8, 1)])):
            for field in (-1, len(stream), -len(stream), len(stream) + 1, BIG, -BIG):
                self.refused("NoPlan", host_more, stream, field)

    def test_what_is_no_stream_goes_ahead(self):
        wrong = [None, True, 0, "", "stream", (), [], [[]], [[], []], [[(2, 1, 1)]], [[(2, 1, 1)], [(1, 0, 1)]],
                 [[(2, 1, 1)], [(1, 1, 2)]], PAPER, [[(41, 41, 1)]], [[(0, 0, 1)] for field in range(9)]]
        wrong += list(bent_at_each_place(STREAM))
        for thing in wrong:
            for field in (0, 1, -1, BIG):
                self.refused("NoStream", host_more, thing, field)

    def test_of_more_and_lead_it_never_shows_less(self):
        draw = random.Random(96)
        for trial in range(60):
            battle = drawn_battle(f"host {trial}", draw.randint(0, 4), draw.randint(0, 5), draw.randint(1, 4))
            fields = [("more", draw.randint(1, 9), 0) if field[0] == "table" else field for field in battle[2]]
            stream = stream_of(drawn_mix(draw, battle[0], len(fields), 4))
            less = shown((battle[0], battle[1], fields), "first", stream)
            for field in range(len(fields)):
                more = shown((battle[0] + 1, battle[1], fields), "first", host_more(stream, field))
                self.assertGreaterEqual(Fraction(*more), Fraction(*less))
            worths = [battle_worth((battle[0] + by, battle[1], fields))[0] for by in (0, 1)]
            self.assertGreaterEqual(Fraction(*worths[1]), Fraction(*worths[0]))

    def test_what_was_handed_in_may_be_changed_behind(self):
        stream = [list(row) for row in STREAM]
        told = [host_more(stream, field) for field in range(2)]
        stream[0][0] = (9, 9, 9)
        stream[1].pop()
        self.assertEqual(told, [[[(3, 2, 1), (3, 3, 1)], [(0, 0, 1), (1, 1, 1)]],
                                [[(3, 1, 1), (3, 2, 1)], [(1, 1, 1), (2, 2, 1)]]])


class GainTest(HostTest):
    def test_plans_win_the_same_with_sides_exchanged_and_so_many_times_as_much_scaled(self):
        battle = drawn_battle(97, 3, 2, 3, BIG)
        for one, other in itertools.product(all_plans(3, 3), all_plans(2, 3)):
            won = gain(battle, one, other)
            self.assertEqual(gain(exchanged(battle), other, one), -won)
            self.assertEqual(gain(scaled(battle, 12), one, other), 12 * won)


if __name__ == "__main__":
    unittest.main()
