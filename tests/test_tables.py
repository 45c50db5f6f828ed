import random
import unittest

from hostfields.fields import pay
from hostfields.mixes import stream_of
from hostfields.tables import bounds, dues, together_table
from helper import BIG, HostTest, all_counts, drawn_battle, drawn_mix, due


class TablesTest(HostTest):
    def test_dues_by_hand(self):
        battle = (2, 1, [("more", 3, 0), ("more", 3, 0)])
        self.tells([[6, 3], [3, -3]], dues, battle, "first", [[(2, 1, 1), (2, 2, 1)], [(0, 0, 1), (1, 1, 1)]])
        self.tells([[-3, 3, 6], [-3, 3, 6]], dues, battle, "second", [[(1, 0, 1), (1, 1, 1)], [(0, 0, 1), (1, 1, 1)]])

    def test_dues_of_drawn_streams(self):
        draw = random.Random(31)
        for seed, (first, second, fields) in enumerate(((0, 0, 1), (0, 3, 2), (4, 0, 3), (3, 5, 4), (10, 10, 5))):
            battle = drawn_battle(seed, first, second, fields, BIG)
            for side, own, others in (("first", first, second), ("second", second, first)):
                stream = stream_of(drawn_mix(draw, own, fields, 6))
                told = [[due(battle, field, side, stream, count) for count in range(others + 1)]
                        for field in range(fields)]
                self.tells(told, dues, battle, side, stream)

    def test_bounds(self):
        self.tells([7], bounds, [5, 6, 7], None, 2)
        self.tells([5 + 30, 6 + 20, 7 + 10], bounds, [5, 6, 7], [10, 20, 30], 2)
        self.tells([5 + 10], bounds, [5, 6, 7], [10, 20, 30], 0)

    def test_together(self):
        battle = drawn_battle(32, 4, 3, 1)
        field = battle[2][0]
        told = [[sum(pay(battle, 0, x, y) for x in one for y in other) for other in all_counts(3, 3)]
                for one in all_counts(4, 3)]
        self.tells(told, together_table, field, all_counts(4, 3), all_counts(3, 3))


if __name__ == "__main__":
    unittest.main()
