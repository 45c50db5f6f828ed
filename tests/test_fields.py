import copy
import unittest

from hostfields.counts import counts_table, counts_worth, is_alike, ring_gain
from hostfields.fields import gain, look_battle, pay, rises
from hostfields.judge import judged
from helper import BIG, HostTest, all_plans

MORE = ("more", 3, 1)
LEAD = ("lead", 2, 1)


def table(first, second):
    """All numbers unlike, below 0 and above it, so that no row or number can be taken for another."""
    return ("table", [[100 * x - 7 * y - 3 for y in range(second + 1)] for x in range(first + 1)])


def askers():
    """Each function that gets a battle, asked with what it refuses itself behind the battle."""
    return (
        (look_battle, ()),
        (pay, (99, -1, -1)),
        (pay, (0, 0, 0)),
        (gain, ([], [])),
        (gain, ([-1, 2], [99])),
        (rises, ()),
        (judged, ("third", (0, 1), None)),
        (judged, ("first", (0, 1), ([], []))),
        (is_alike, ()),
        (ring_gain, ([], [])),
        (counts_table, ()),
        (counts_worth, ()),
    )


class BattleTest(HostTest):
    def lets(self, battle):
        self.tells(None, look_battle, battle)

    def is_none(self, field, battle):
        for asked, rest in askers():
            error = self.refused("NoBattle", asked, battle, *rest)
            self.assertEqual(repr(error.field), repr(field), battle)

    def lets_field(self, field, first=2, second=3):
        self.lets((first, second, [field]))
        self.lets((first, second, [MORE, field, LEAD]))

    def field_is_none(self, field, first=2, second=3):
        self.is_none(0, (first, second, [field]))
        self.is_none(2, (first, second, [MORE, LEAD, field, MORE]))

    def test_hosts_at_their_bounds(self):
        for first in (0, 1, 9, 10):
            for second in (0, 1, 9, 10):
                self.lets((first, second, [MORE, LEAD, table(first, second)]))

    def test_hosts_beyond_their_bounds(self):
        for wrong in (-1, 11, -BIG, BIG):
            self.is_none(-1, (wrong, 5, [MORE]))
            self.is_none(-1, (5, wrong, [MORE]))
            self.is_none(-1, (wrong, wrong, [MORE, LEAD]))

    def test_how_many_fields(self):
        for many in (1, 2, 3, 4, 5):
            self.lets((3, 4, [MORE] * many))
        for many in (0, 6, 7, 40):
            self.is_none(-1, (3, 4, [MORE] * many))

    def test_more_at_its_bounds(self):
        for worth in (1, 2, BIG):
            for tie in (-worth, 0, worth):
                self.lets_field(("more", worth, tie))
            for tie in (-worth - 1, worth + 1):
                self.field_is_none(("more", worth, tie))
        for worth in (0, -1, -BIG):
            for tie in (0, -1, 1, -BIG, BIG):
                self.field_is_none(("more", worth, tie))

    def test_lead_at_its_bounds(self):
        for worth in (1, 2, BIG):
            for lead in (-BIG, -11, -1, 0, 1, 11, BIG):
                self.lets_field(("lead", worth, lead))
        for worth in (0, -1, -BIG):
            for lead in (-1, 0, 1):
                self.field_is_none(("lead", worth, lead))

    def test_table_of_any_numbers(self):
        self.lets_field(("table", [[-BIG, BIG, 0, 1], [0, 0, 0, 0], [5, -5, 5, -5]]))
        self.lets_field(("table", [[0]]), 0, 0)
        self.lets_field(("table", [[0, 1]]), 0, 1)
        self.lets_field(("table", [[0], [1]]), 1, 0)

    def test_table_rows_too_few_and_too_many(self):
        for first in (0, 2, 10):
            for many in (0, first, first + 2):
                self.field_is_none(("table", [[0] * 4 for row in range(many)]), first, 3)

    def test_table_numbers_too_few_and_too_many(self):
        for second in (0, 3, 10):
            for row in range(3):
                for many in (second, second + 2):
                    field = table(2, second)
                    field[1][row] = [0] * many
                    self.field_is_none(field, 2, second)

    def test_table_turned_over(self):
        self.field_is_none(table(3, 2), 2, 3)

    def test_no_number_in_the_place_of_a_number(self):
        for wrong in (None, True, False, "1", "", (1,), (), [1], [], [[0]]):
            self.field_is_none(("more", wrong, 0))
            self.field_is_none(("more", 3, wrong))
            self.field_is_none(("lead", wrong, 0))
            self.field_is_none(("lead", 3, wrong))
            for x in range(3):
                for y in range(4):
                    field = table(2, 3)
                    field[1][x][y] = wrong
                    self.field_is_none(field)

    def test_no_list_in_the_place_of_a_list(self):
        for wrong in (None, True, 0, 3, "rows", "abc", "abcd", (), ([0] * 4,) * 3, (0, 0, 0, 0)):
            self.field_is_none(("table", wrong))
            for x in range(3):
                field = table(2, 3)
                field[1][x] = wrong
                self.field_is_none(field)

    def test_parts_more_or_fewer(self):
        for field in (MORE, LEAD, table(2, 3)):
            for fewer in range(1, len(field)):
                self.field_is_none(field[:fewer])
            for part in (None, True, 0, 1, "", (), []):
                self.field_is_none(field + (part,))

    def test_another_first_word(self):
        for word in ("", "More", "MORE", "more ", " more", "mor", "less", "leads", "tables", "rows", "lead\n"):
            for rest in ((3, 0), (table(2, 3)[1],)):
                self.field_is_none((word,) + rest)

    def test_a_field_is_a_tuple(self):
        self.field_is_none(list(MORE))
        self.field_is_none(list(LEAD))
        self.field_is_none(list(table(2, 3)))

    def test_a_word_with_the_parts_of_another_form(self):
        rows = table(2, 3)[1]
        self.field_is_none(("more", rows))
        self.field_is_none(("lead", rows))
        self.field_is_none(("table", 3, 0))
        self.field_is_none(("table", rows, 0))

    def test_the_first_field_that_is_none_is_told(self):
        for one in range(5):
            for other in range(one, 5):
                fields = [MORE, LEAD, table(2, 3), MORE, LEAD]
                fields[one] = ("more", 0, 0)
                fields[other] = ("table", [])
                self.is_none(one, (2, 3, fields))

    def test_sizes_go_ahead_of_fields(self):
        wrong = ("more", 0, 0)
        self.is_none(-1, (11, 3, [wrong]))
        self.is_none(-1, (3, -1, [MORE, wrong]))
        self.is_none(-1, (3, 3, [wrong] * 6))


class PayTest(HostTest):
    def test_more(self):
        battle = (3, 2, [("more", 5, -2)])
        for x in range(4):
            for y in range(3):
                self.tells(5 if x > y else -5 if x < y else -2, pay, battle, 0, x, y)

    def test_lead(self):
        for lead in (-BIG, -3, -2, -1, 0, 1, 2, 3, 4, BIG):
            battle = (3, 2, [("lead", 7, lead)])
            for x in range(4):
                for y in range(3):
                    self.tells(7 if x >= y + lead else -7, pay, battle, 0, x, y)

    def test_table(self):
        battle = (3, 2, [table(3, 2)])
        for x in range(4):
            for y in range(3):
                self.tells(100 * x - 7 * y - 3, pay, battle, 0, x, y)

    def test_each_field_by_its_number(self):
        battle = (2, 2, [("more", worth, 0) for worth in (1, 2, 3, 4, 5)])
        for field in range(5):
            self.tells(field + 1, pay, battle, field, 2, 0)
            self.tells(-field - 1, pay, battle, field, 0, 2)

    def test_the_greatest_and_the_least_battle(self):
        self.tells(4, pay, (0, 0, [("table", [[4]])]), 0, 0, 0)
        battle = (10, 10, [table(10, 10)] * 5)
        self.tells(927, pay, battle, 4, 10, 10)
        self.tells(-3, pay, battle, 0, 0, 0)

    def test_worths_of_whatever_size(self):
        great = 10 ** 500
        self.tells(great, pay, (1, 1, [("more", great, -great)]), 0, 1, 0)
        self.tells(-great, pay, (1, 1, [("more", great, -great)]), 0, 1, 1)

    def test_what_is_no_field_or_no_count_is_refused(self):
        battle = (3, 2, [MORE, LEAD])
        for wrong in (-1, 2, 3, -2, -BIG, BIG):
            self.refused("NoPlan", pay, battle, wrong, 0, 0)
        for wrong in (-1, 4, -BIG, BIG):
            self.refused("NoPlan", pay, battle, 0, wrong, 0)
        for wrong in (-1, 3, -BIG, BIG):
            self.refused("NoPlan", pay, battle, 0, 0, wrong)
        self.tells(3, pay, battle, 0, 3, 0)
        self.tells(-2, pay, battle, 1, 0, 2)

    def test_a_truth_is_no_number(self):
        battle = (3, 2, [MORE, LEAD])
        for handed in ((True, 0, 0), (0, True, 0), (0, 0, False)):
            self.refused("NoPlan", pay, battle, *handed)


class GainTest(HostTest):
    def test_by_hand(self):
        rows = [[0, 1, 2], [3, 4, 5], [6, 7, 8], [9, 10, 11]]
        battle = (3, 2, [("more", 4, 1), ("lead", 10, 2), ("table", rows)])
        self.tells(1 + 10 + 5, gain, battle, [0, 2, 1], [0, 0, 2])
        self.tells(-4 - 10 + 10, gain, battle, [0, 0, 3], [1, 0, 1])
        self.tells(4 - 10 + 0, gain, battle, [2, 1, 0], [0, 2, 0])
        self.tells(4 - 10 + 0, gain, battle, [3, 0, 0], [2, 0, 0])

    def test_the_sum_over_the_fields(self):
        battle = (3, 2, [MORE, LEAD, table(3, 2)])
        for one in all_plans(3, 3):
            for other in all_plans(2, 3):
                won = sum(pay(battle, field, one[field], other[field]) for field in range(3))
                self.tells(won, gain, battle, one, other)

    def test_no_hosts_and_one_field(self):
        self.tells(1, gain, (0, 0, [MORE]), [0], [0])
        self.tells(3, gain, (1, 0, [MORE]), [1], [0])
        self.tells(-3, gain, (0, 1, [MORE]), [0], [1])

    def test_the_greatest_battle(self):
        battle = (10, 10, [MORE] * 5)
        self.tells(3 - 3 + 1 + 1 + 1, gain, battle, [10, 0, 0, 0, 0], [0, 10, 0, 0, 0])

    def test_what_is_no_plan_is_refused(self):
        battle = (3, 2, [MORE, LEAD, MORE])
        one = [1, 2, 0]
        other = [0, 1, 1]
        gain(battle, one, other)
        shared = ([], [0], [3], [2], [0, 0, 0], [0, 0, 0, 0], [1, 1, 1, 1], [BIG, 0, 0], [BIG, 0, -BIG])
        for wrong in shared + ([3, 0], [1, 2], [3, 0, 0, 0], [1, 1, 0], [1, 2, 1], [-1, 2, 2], [4, -1, 0], [2, 0, 0]):
            self.refused("NoPlan", gain, battle, wrong, other)
        for wrong in shared + ([2, 0], [1, 1], [2, 0, 0, 0], [1, 0, 0], [1, 1, 1], [-1, 2, 1], [3, -1, 0], [3, 0, 0]):
            self.refused("NoPlan", gain, battle, one, wrong)

    def test_each_side_has_its_own_hosts(self):
        battle = (3, 2, [MORE, LEAD])
        self.refused("NoPlan", gain, battle, [2, 0], [3, 0])
        self.tells(1, gain, battle, [3, 0], [2, 0])

    def test_a_truth_is_no_number(self):
        battle = (3, 2, [MORE, LEAD])
        self.refused("NoPlan", gain, battle, [True, 2], [2, 0])
        self.refused("NoPlan", gain, battle, [3, 0], [2, False])


class RisesTest(HostTest):
    def test_more_and_lead_rise(self):
        for field in (("more", 3, -3), ("more", 3, 3), ("more", 3, 0), LEAD, ("lead", 2, -5), ("lead", 2, BIG)):
            self.tells(True, rises, (3, 4, [field]))
            self.tells(True, rises, (10, 10, [field] * 5))

    def test_a_table_that_rises(self):
        self.tells(True, rises, (2, 3, [("table", [[0, -1, -2, -2], [1, 1, -1, -1], [5, 1, 1, 0]])]))
        self.tells(True, rises, (2, 3, [("table", [[4] * 4, [4] * 4, [4] * 4])]))
        self.tells(True, rises, (0, 0, [("table", [[-9]])]))

    def test_a_single_number_for_the_first_side(self):
        # Each row falls enough by itself; only from one row to the next is something less.
        for x in range(1, 4):
            for y in range(3):
                rows = [[-10 * count for count in range(3)] for row in range(4)]
                self.tells(True, rises, (3, 2, [("table", rows)]))
                rows[x][y] -= 1
                self.tells(False, rises, (3, 2, [("table", rows)]))

    def test_a_single_number_for_the_second_side(self):
        # Each row is far above the one ahead; only within one row is something more.
        for x in range(4):
            for y in range(1, 3):
                rows = [[100 * row] * 3 for row in range(4)]
                self.tells(True, rises, (3, 2, [("table", rows)]))
                rows[x][y] += 1
                self.tells(False, rises, (3, 2, [("table", rows)]))

    def test_one_row_or_one_number_a_row(self):
        self.tells(True, rises, (0, 2, [("table", [[3, 2, 2]])]))
        self.tells(False, rises, (0, 2, [("table", [[3, 2, 3]])]))
        self.tells(True, rises, (2, 0, [("table", [[2], [2], [3]])]))
        self.tells(False, rises, (2, 0, [("table", [[2], [3], [2]])]))

    def test_each_field_counts(self):
        for place in range(5):
            fields = [MORE] * 5
            self.tells(True, rises, (1, 1, fields))
            fields[place] = ("table", [[0, 0], [-1, -1]])
            self.tells(False, rises, (1, 1, fields))


class KeptTest(HostTest):
    def test_what_was_handed_in_may_be_changed_behind(self):
        battle = (1, 1, [MORE, ("table", [[5, 4], [7, 6]])])
        elder = copy.deepcopy(battle)
        one = [0, 1]
        other = [1, 0]
        self.tells(-3 + 7, gain, battle, one, other)
        battle[2][1][1][1][0] = 70
        self.tells(-3 + 70, gain, battle, one, other)
        self.tells(70, pay, battle, 1, 1, 0)
        self.tells(7, pay, elder, 1, 1, 0)
        battle[2].pop(0)
        self.refused("NoPlan", gain, battle, one, other)
        self.tells(-3 + 7, gain, elder, one, other)
        battle[2][0][1][1].pop()
        self.assertEqual(self.refused("NoBattle", rises, battle).field, 0)

    def test_one_row_list_may_stand_at_several_places(self):
        row = [1, 0]
        field = ("table", [row, row])
        self.tells(1, gain, (1, 1, [field, field]), [0, 1], [1, 0])
        self.tells(True, rises, (1, 1, [field, field]))


if __name__ == "__main__":
    unittest.main()
