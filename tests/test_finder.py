import itertools
import random
import unittest
from fractions import Fraction

from hostfields.counts import counts_worth
from hostfields.fields import look_battle, pay, rises
from hostfields.finder import battle_worth
from hostfields.judge import judged
from hostfields.mixes import is_stream, taken_apart
from helper import (BIG, HostTest, drawn_battle, drawn_field, even_table, pair, rising_table, shown_by_all_plans,
                    table)


def of_form(draw, word, first, second, most):
    while True:
        field = drawn_field(draw, first, second, most)
        if field[0] == word:
            return field


class FinderTest(HostTest):
    def solves(self, battle, worth=None):
        """See, by the judge, that the papers of both sides keep the worth: so it is the battle's."""
        told = self.told(battle_worth, battle)
        self.assertEqual([type(told), len(told)], [tuple, 3])
        self.assertEqual([type(told[0]), told[0]], [tuple, pair(Fraction(*told[0]))])
        if worth is not None:
            self.assertEqual(Fraction(*told[0]), worth)
        for side, hosts, paper in (("first", battle[0], told[1]), ("second", battle[1], told[2])):
            self.assertTrue(is_stream(hosts, len(battle[2]), paper[0]))
            self.assertIsNone(judged(battle, side, told[0], paper), (side, battle))
        return told

    def solves_soon(self, battle, worth=None):
        self.told_soon(battle_worth, battle)
        return self.solves(battle, worth)

    def test_by_hand(self):
        self.tells(((7, 1), ([[(0, 0, 1)]], [[7]]), ([[(0, 0, 1)]], [[7]])), battle_worth, (0, 0, [("more", 9, 7)]))
        self.solves((1, 1, [("table", [[0, 0], [0, 2]]), ("table", [[0, 0], [0, 1]])]), Fraction(2, 3))
        self.solves((2, 1, [("more", 3, 0), ("more", 3, 0)]), 3)
        # A single host on two fields against one: where they meet there are ties, else each wins a field.
        self.solves((1, 1, [("more", 5, 0), ("more", 1, 0)]), 0)
        # The second side has one host for two fields, and is to guess where the first one's is.
        self.solves((1, 1, [table(1, 1, lambda x, y: int(x > y))] * 2), Fraction(1, 2))
        self.solves((1, 1, [table(1, 1, lambda x, y: int(x > y))] * 4), Fraction(3, 4))

    def test_small_battles_by_all_plans(self):
        sizes = ((0, 0, 1), (0, 2, 2), (2, 0, 2), (1, 1, 1), (2, 3, 1), (3, 2, 2), (2, 3, 3), (3, 3, 3), (1, 4, 4),
                 (4, 2, 4), (2, 2, 4), (5, 5, 2))
        for seed, size in enumerate(sizes):
            for most in (1, 4, BIG):
                battle = drawn_battle(f"{seed} {most}", *size, most)
                worth, one, other = self.solves(battle)
                self.assertEqual(pair(shown_by_all_plans(battle, "first", taken_apart(one[0]))), worth)
                self.assertEqual(pair(shown_by_all_plans(battle, "second", taken_apart(other[0]))), worth)

    def test_all_sizes_of_all_forms(self):
        draw = random.Random(71)
        for first, second, fields in itertools.product((0, 1, 4, 7), (0, 2, 5, 7), range(1, 5)):
            most = draw.choice((1, 2, 9, BIG))
            self.solves(drawn_battle(f"{first} {second} {fields}", first, second, fields, most))

    def test_many_drawn_battles(self):
        draw = random.Random(72)
        for trial in range(150):
            most = draw.choice((1, 1, 2, 9, 10 ** 12, BIG))
            sizes = (draw.randint(0, 6), draw.randint(0, 6), draw.randint(1, 4))
            self.solves(drawn_battle(f"many {trial}", *sizes, most))

    def test_one_field_is_what_all_hosts_win_there(self):
        draw = random.Random(73)
        for first, second in itertools.product((0, 1, 2, 7), repeat=2):
            for word in ("more", "lead", "table"):
                battle = (first, second, [of_form(draw, word, first, second, draw.choice((3, BIG)))])
                self.solves(battle, pay(battle, 0, first, second))

    def test_no_hosts_on_one_side_or_both(self):
        draw = random.Random(74)
        for first, second, fields in itertools.product((0, 7), (0, 7), range(1, 5)):
            if first == 0 or second == 0:
                for most in (1, BIG):
                    battle = (first, second, [drawn_field(draw, first, second, most) for field in range(fields)])
                    self.solves_soon(battle)
                    battle = (first, second, [rising_table(draw, first, second, most) for field in range(fields)])
                    self.solves_soon(battle)
        self.solves((0, 0, [("more", 3, 1), ("lead", 5, 1), ("table", [[-BIG]])]), 1 - 5 - BIG)

    def test_seven_hosts_and_four_fields_of_each_form(self):
        draw = random.Random(75)
        for word in ("more", "lead", "table"):
            for most in (1, 5, BIG):
                for trial in range(3):
                    self.solves_soon((7, 7, [of_form(draw, word, 7, 7, most) for field in range(4)]))

    def test_seven_hosts_and_four_fields_of_mixed_forms(self):
        draw = random.Random(76)
        for trial in range(8):
            battle = drawn_battle(f"mixed {trial}", 7, draw.randint(5, 7), 4, draw.choice((2, BIG)))
            self.solves_soon(battle)

    def test_worths_of_thirty_figures(self):
        draw = random.Random(77)
        for trial in range(4):
            worths = [draw.randint(10 ** 29, BIG) for field in range(4)]
            self.solves_soon((7, 7, [("more", worth, 0) for worth in worths]), 0)
            self.solves_soon((7, 6, [("more", worth, draw.randint(-worth, worth)) for worth in worths]))
            self.solves_soon((6, 7, [("lead", worth, draw.randint(-2, 2)) for worth in worths]))
            self.solves_soon((7, 7, [("lead", worth, draw.choice((BIG, -BIG))) for worth in worths]))
        self.solves((7, 7, [("lead", BIG, BIG)] * 4), -4 * BIG)

    def test_tables_that_rise(self):
        draw = random.Random(78)
        for first, second, most in itertools.product((3, 7), (4, 7), (1, 6, BIG // 100)):
            battle = (first, second, [rising_table(draw, first, second, most) for field in range(4)])
            self.assertTrue(rises(battle))
            self.solves_soon(battle)

    def test_tables_that_do_not_rise(self):
        draw = random.Random(79)
        for most in (1, 6, BIG):
            for trial in range(3):
                battle = (7, 7, [table(7, 7, lambda x, y: draw.randint(-most, most)) for field in range(4)])
                self.assertFalse(rises(battle))
                self.solves_soon(battle)

    def test_where_like_meets_like(self):
        # Many plans count here: the hardest of battles.
        draw = random.Random(80)
        for most in (1, 9, BIG):
            for sign in (1, -1):
                fields = [table(7, 7, lambda x, y: sign * draw.randint(1, most) if x == y else 0) for field in range(4)]
                self.solves_soon((7, 7, fields))
            self.solves_soon((7, 7, [table(7, 7, lambda x, y: most * ((x + y) % 2))] * 4))
            self.solves_soon((7, 7, [table(7, 7, lambda x, y: most * (x - y) ** 2)] * 4))
            self.solves_soon((7, 7, [table(7, 7, lambda x, y: most * (x == y))] * 4))
            self.solves_soon((7, 7, [table(7, 7, lambda x, y: most * x * y) for field in range(3)] + [("lead", 1, 2)]))

    def test_all_the_same(self):
        for number in (0, -1, BIG, -BIG):
            self.solves_soon((7, 7, [table(7, 7, lambda x, y: number)] * 4), 4 * number)

    def test_numbers_great_beside_small(self):
        # Rounded, the small ones are all alike: what counts among them is still to be found.
        draw = random.Random(81)
        for trial in range(4):
            fields = [table(6, 6, lambda x, y: draw.choice((-1, 1)) * 10 ** draw.choice((0, 1, 8, 15, 29)))
                      for field in range(4)]
            self.solves_soon((6, 6, fields))
            one = draw.randint(0, 6)
            fields = [table(6, 6, lambda x, y: draw.randint(-5, 5)) for field in range(3)]
            fields.append(table(6, 6, lambda x, y: BIG if x == one else -BIG if y == one else draw.randint(-5, 5)))
            self.solves_soon((6, 6, fields))

    def test_numbers_of_some_hundred_figures(self):
        # No longer ones are handed in, but the scaled battles that are told may be asked about again.
        draw = random.Random(82)
        most = 10 ** 150
        self.solves_soon((7, 7, [table(7, 7, lambda x, y: draw.randint(-most, most)) for field in range(4)]))
        self.solves_soon((7, 7, [even_table(draw, 7, 10 ** 200) for field in range(4)]), 0)

    def test_alike_battles_are_worth_what_counts_tell(self):
        draw = random.Random(83)
        for trial in range(12):
            first, second, fields = draw.randint(1, 7), draw.randint(1, 7), draw.randint(1, 4)
            battle = (first, second, [drawn_field(draw, first, second, draw.choice((4, BIG)))] * fields)
            self.solves(battle, Fraction(*counts_worth(battle)[0]))

    def test_even_battles_are_worth_nothing(self):
        draw = random.Random(84)
        for most in (1, 9, BIG):
            self.solves_soon((7, 7, [even_table(draw, 7, most) for field in range(4)]), 0)
            self.solves_soon((5, 5, [even_table(draw, 5, most), ("more", most, 0), even_table(draw, 5, most)]), 0)

    def test_no_others_that_are_let_by_show_another_worth(self):
        battle = drawn_battle(85, 4, 4, 3)
        worth, one, other = self.solves(battle)
        for little in (1, Fraction(1, BIG), Fraction(1, 10 ** 300)):
            self.assertEqual(judged(battle, "first", pair(Fraction(*worth) + little), one), ("worth",))
            self.assertEqual(judged(battle, "second", pair(Fraction(*worth) - little), other), ("worth",))

    def test_greater_battles_are_refused(self):
        more = ("more", 1, 0)
        for first, second, fields in ((8, 7, 4), (7, 8, 4), (8, 0, 1), (0, 8, 1), (7, 7, 5), (0, 0, 5), (10, 10, 5),
                                      (8, 8, 1), (10, 0, 1)):
            battle = (first, second, [more] * fields)
            look_battle(battle)
            self.refused("TooGreat", battle_worth, battle)
            self.refused("TooGreat", battle_worth, (first, second, [table(first, second, lambda x, y: x)] * fields))

    def test_no_battle_goes_ahead_of_too_great(self):
        more = ("more", 1, 0)
        for battle, field in (((8, 8, [more, ("more", 0, 0)]), 1), ((7, 7, [more] * 4 + [("lead", 0, 0)]), 4),
                              ((11, 7, [more]), -1), ((7, -1, [more]), -1), ((7, 7, []), -1), ((7, 7, [more] * 6), -1),
                              ((True, 1, [more]), -1), ((1, 1, [("table", [[0, 0], [0, True]])]), 0),
                              ((8, 1, [("table", [[0, 0], [0, 1]])]), 0), ((1, 1, [more, ("none",)]), 1)):
            self.assertEqual(self.refused("NoBattle", battle_worth, battle).field, field)

    def test_what_was_handed_in_may_be_changed_behind(self):
        rows = [[0, 0], [0, 1]]
        battle = (1, 1, [("table", rows), ("table", rows)])
        told = battle_worth(battle)
        kept = repr(told)
        rows[1][1] = 5
        self.assertEqual(repr(told), kept)
        self.assertEqual(told[0], (1, 2))
        self.solves(battle, Fraction(5, 2))


if __name__ == "__main__":
    unittest.main()
