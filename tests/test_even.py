import itertools
import random
import unittest

from hostfields.even import even_papers, is_even
from hostfields.fields import look_battle, pay
from hostfields.finder import battle_worth
from hostfields.judge import judged
from helper import BIG, HostTest, drawn_battle, even_table, lists_in, table


def even_field(draw, hosts, most):
    if draw.random() < 0.4:
        return ("more", draw.randint(1, most), 0)
    return even_table(draw, hosts, most)


def even_battle(seed, hosts, fields, most):
    draw = random.Random(seed)
    return (hosts, hosts, [even_field(draw, hosts, most) for field in range(fields)])


def even_by_words(battle):
    """Point 19, count by count."""
    if battle[0] != battle[1]:
        return False
    counts = range(battle[0] + 1)
    return all(pay(battle, field, x, y) == -pay(battle, field, y, x)
               for field in range(len(battle[2])) for x in counts for y in counts)


class EvenTest(HostTest):
    def keeps_even(self, battle):
        self.tells(True, is_even, battle)
        told = self.told_soon(even_papers, battle)
        self.assertEqual(repr(told), repr(self.told(even_papers, battle)))
        self.assertEqual([type(told), len(told)], [tuple, 2])
        one, other = told
        self.assertEqual([type(one), type(other)], [tuple, tuple])
        self.assertEqual(one[0], other[0])
        self.assertIsNone(judged(battle, "first", (0, 1), one))
        self.assertIsNone(judged(battle, "second", (0, 1), other))
        self.assertEqual(len({id(part) for part in lists_in(told)}), len(lists_in(told)))

    def is_none(self, battle):
        look_battle(battle)
        self.tells(False, is_even, battle)
        if max(battle[:2]) <= 7 and len(battle[2]) <= 4:
            self.refused("NoEven", even_papers, battle)

    def test_by_hand(self):
        self.keeps_even((0, 0, [("more", 3, 0)]))
        self.keeps_even((0, 0, [("table", [[0]])]))
        self.keeps_even((2, 2, [("table", [[0, 1, -2], [-1, 0, 3], [2, -3, 0]])]))
        self.is_none((0, 0, [("table", [[1]])]))
        self.is_none((0, 0, [("more", 3, 1)]))
        self.is_none((1, 1, [("table", [[0, 1], [1, 0]])]))

    def test_all_sizes_of_all_forms(self):
        for hosts, fields in itertools.product((0, 1, 2, 5, 7), range(1, 5)):
            for most in (1, 5, BIG):
                battle = even_battle(f"{hosts} {fields} {most}", hosts, fields, most)
                self.assertTrue(even_by_words(battle))
                self.keeps_even(battle)

    def test_seven_hosts_and_four_fields(self):
        draw = random.Random(91)
        for most in (1, 9, BIG):
            self.keeps_even((7, 7, [("more", draw.randint(1, most), 0) for field in range(4)]))
            self.keeps_even((7, 7, [even_table(draw, 7, most) for field in range(4)]))
            self.keeps_even((7, 7, [even_field(draw, 7, most) for field in range(4)]))
            self.keeps_even((7, 7, [even_table(draw, 7, most)] * 4))
        self.keeps_even((7, 7, [table(7, 7, lambda x, y: x - y)] * 4))
        self.keeps_even((7, 7, [table(7, 7, lambda x, y: 0)] * 4))

    def test_greater_ones_are_told_too(self):
        for hosts, fields in ((8, 1), (8, 4), (7, 5), (10, 5), (10, 1), (0, 5)):
            battle = even_battle(f"great {hosts} {fields}", hosts, fields, BIG)
            self.tells(True, is_even, battle)
            self.refused("TooGreat", even_papers, battle)
            battle[2][-1] = ("more", 2, 1)
            self.tells(False, is_even, battle)
            self.refused("TooGreat", even_papers, battle)

    def test_one_number_that_is_not(self):
        for hosts, most in ((1, 3), (3, BIG), (10, 2)):
            for x, y, by in itertools.product(range(hosts + 1), range(hosts + 1), (-1, 1)):
                battle = (hosts, hosts, [("more", 2, 0), even_table(random.Random(92), hosts, most)])
                battle[2][1][1][x][y] += by
                self.is_none(battle)

    def test_one_number_that_is_the_same_and_not_nought_less_it(self):
        battle = (3, 3, [even_table(random.Random(93), 3, 9)])
        rows = battle[2][0][1]
        rows[1][2] = rows[2][1] = 4
        self.is_none(battle)

    def test_one_tie_that_is_not_nought(self):
        for place, tie in itertools.product(range(4), (-BIG, -1, 1, BIG)):
            fields = [("more", BIG, 0)] * 4
            fields[place] = ("more", BIG, tie)
            self.is_none((6, 6, fields))

    def test_a_lead_is_never_even(self):
        for hosts in (0, 1, 4, 10):
            for lead in (-BIG, -1, 0, 1, 2, BIG):
                self.is_none((hosts, hosts, [("lead", 1, lead)]))
                self.is_none((hosts, hosts, [("more", 1, 0), ("lead", BIG, lead)]))

    def test_one_host_more(self):
        for first, second in ((1, 0), (0, 1), (6, 7), (7, 6), (10, 9)):
            self.is_none((first, second, [("more", 1, 0)] * 2))
            self.is_none((first, second, [table(first, second, lambda x, y: x - y)] * 3))
            self.is_none((first, second, [table(first, second, lambda x, y: 0)]))

    def test_drawn_battles_by_words(self):
        for trial in range(300):
            draw = random.Random(trial)
            hosts = draw.randint(0, 2)
            battle = drawn_battle(f"words {trial}", hosts, hosts, draw.randint(1, 2), 1)
            self.tells(even_by_words(battle), is_even, battle)

    def test_tables_that_pay_what_more_pays(self):
        self.keeps_even((3, 3, [table(3, 3, lambda x, y: 5 * (x > y) - 5 * (x < y)), ("more", 5, 0)]))

    def test_the_worth_of_an_even_battle_is_nought(self):
        for trial in range(10):
            self.assertEqual(battle_worth(even_battle(f"worth {trial}", 4, 3, 7))[0], (0, 1))

    def test_refusals_in_their_order(self):
        more = ("more", 1, 0)
        for battle, field in (((8, 7, [more, ("more", 0, 0)]), 1), ((8, 8, [more] * 6), -1), ((11, 11, [more]), -1),
                              ((2, 3, []), -1), ((2, 3, [more, ("table", [])]), 1), ((False, 0, [more]), -1)):
            for call in (is_even, even_papers):
                self.assertEqual(self.refused("NoBattle", call, battle).field, field)
        for battle in ((8, 7, [more]), (7, 8, [more]), (7, 7, [more] * 4 + [("more", 1, 1)]), (8, 8, [("lead", 1, 1)])):
            self.refused("TooGreat", even_papers, battle)
            self.tells(False, is_even, battle)
        for battle in ((7, 6, [more]), (7, 7, [more] * 3 + [("more", 1, 1)]), (7, 7, [("lead", 1, 1)])):
            self.refused("NoEven", even_papers, battle)

    def test_what_was_handed_in_may_be_changed_behind(self):
        rows = [[0, 1], [-1, 0]]
        battle = (1, 1, [("table", rows), ("table", rows)])
        told = even_papers(battle)
        kept = repr(told)
        rows[1][1] = 5
        self.assertEqual(repr(told), kept)
        self.is_none(battle)


if __name__ == "__main__":
    unittest.main()
