import itertools
import random
import unittest
from fractions import Fraction

from hostfields.fields import look_battle, pay
from hostfields.finder import battle_worth
from hostfields.seen import seen_judged, seen_paper, seen_worth
from helper import (BIG, HostTest, bent_at_each_place, drawn_battle, drawn_field, even_table, pair, rising_table,
                    table)

# One host a side: on field 0 the first wins 2 where both have met there, on field 1 one.
MEET = (1, 1, [("table", [[0, 0], [0, 2]]), ("table", [[0, 0], [0, 1]])])
MEET_PAPER = [
    [[((0, 1), [1], [1]), ((0, 1), [1], [1, 0])],
     [((0, 1), [1, 0], [1]), ((2, 3), [2, 1], [2, 1])]],
    [[((0, 1), [1], [1]), ((0, 1), [1], [0, 1])],
     [((0, 1), [0, 1], [1]), ((1, 1), [0, 1], [0, 1])]],
]

NO_FRACTIONS = (None, True, 0, 1, "", "1/2", (), [], (1,), (1, 0), (0, 2), (2, 2), (4, 6), (1, -1), (-1, -1), (1, 1, 1),
                [1, 1], (True, 1), (1, True), (False, 1), ("1", 1), (1, None), (0, 0), (BIG * 3, BIG), (10 ** 900, 5))


def standings(paper):
    """In the order of point 27: fields from the last to the first one, then by x, then by y."""
    for field in reversed(range(len(paper))):
        for x, row in enumerate(paper[field]):
            for y in range(len(row)):
                yield field, x, y


def with_standing(paper, place, standing):
    field, x, y = place
    told = [[list(row) for row in rows] for rows in paper]
    told[field][x][y] = standing
    return told


def brought(battle, paper, field, x, y, a, b):
    won = Fraction(pay(battle, field, a, b))
    return won if field == len(paper) - 1 else won + Fraction(*paper[field + 1][x - a][y - b][0])


def right_by_words(battle, paper, place):
    """Point 27, of a paper that has the form."""
    field, x, y = place
    worth, rows, columns = paper[field][x][y]
    worth = Fraction(*worth)
    if field == len(paper) - 1:
        return not any(rows[:x]) and not any(columns[:y]) and worth == pay(battle, field, x, y)
    for b in range(y + 1):
        if sum(rows[a] * brought(battle, paper, field, x, y, a, b) for a in range(x + 1)) < worth * sum(rows):
            return False
    for a in range(x + 1):
        if sum(columns[b] * brought(battle, paper, field, x, y, a, b) for b in range(y + 1)) > worth * sum(columns):
            return False
    return True


def judged_by_words(battle, paper):
    for place in standings(paper):
        if not right_by_words(battle, paper, place):
            return ("standing",) + place
    return None


class SeenTest(HostTest):
    def solves(self, battle, worth=None):
        """See that a paper is told that the judge and the document's words let by; tell it."""
        paper = self.told(seen_paper, battle)
        self.tells(None, seen_judged, battle, paper)
        self.assertIsNone(judged_by_words(battle, paper))
        told = self.told(seen_worth, battle)
        self.assertEqual(told, paper[0][battle[0]][battle[1]][0])
        self.assertEqual(told, pair(Fraction(*told)))
        if worth is not None:
            self.assertEqual(Fraction(*told), worth)
        return paper

    def solves_soon(self, battle, worth=None):
        self.told_soon(seen_paper, battle)
        self.told_soon(seen_worth, battle)
        return self.solves(battle, worth)


class SeenPaperTest(SeenTest):
    def test_by_hand(self):
        paper = self.solves(MEET, Fraction(2, 3))
        self.assertEqual([[[standing[0] for standing in row] for row in rows] for rows in paper],
                         [[[standing[0] for standing in row] for row in rows] for rows in MEET_PAPER])
        self.tells([[[((7, 1), [1], [1])]]], seen_paper, (0, 0, [("more", 9, 7)]))
        self.tells((7, 1), seen_worth, (0, 0, [("more", 9, 7)]))

    def test_three_fields_by_hand(self):
        # One is won where both hosts meet. Where both are left ahead of two fields they meet in one of two ways; ahead
        # of three both stay with two thirds, so that meeting at once and staying for 1/2 bring the same.
        paper = self.solves((1, 1, [table(1, 1, lambda x, y: x * y)] * 3), Fraction(1, 3))
        self.assertEqual(paper[1][1][1], ((1, 2), [1, 1], [1, 1]))
        self.assertEqual(paper[0][1][1], ((1, 3), [2, 1], [2, 1]))
        self.assertEqual(paper[0][1][0][0], (0, 1))

    def test_seen_is_not_always_unseen(self):
        unlike = 0
        for trial in range(20):
            battle = drawn_battle(f"unlike {trial}", 3, 3, 3)
            paper = self.solves(battle)
            unlike += paper[0][3][3][0] != battle_worth(battle)[0]
        self.assertGreater(unlike, 5)

    def test_small_battles(self):
        sizes = ((0, 0, 1), (0, 0, 3), (0, 2, 2), (2, 0, 3), (1, 1, 1), (2, 3, 2), (3, 2, 3), (3, 3, 3), (1, 5, 3),
                 (5, 1, 3), (4, 4, 2))
        for seed, size in enumerate(sizes):
            for most in (1, 4, BIG):
                self.solves(drawn_battle(f"seen {seed} {most}", *size, most))

    def test_five_hosts_and_three_fields_of_each_form(self):
        draw = random.Random(121)
        for most in (1, 5, BIG):
            for trial in range(2):
                self.solves_soon((5, 5, [("more", worth, draw.randint(-worth, worth))
                                         for worth in [draw.randint(1, most) for field in range(3)]]))
                self.solves_soon((5, 5, [("lead", draw.randint(1, most), draw.randint(-3, 3)) for field in range(3)]))
                self.solves_soon((5, 5, [table(5, 5, lambda x, y: draw.randint(-most, most)) for field in range(3)]))
                self.solves_soon((5, 5, [rising_table(draw, 5, 5, most) for field in range(3)]))
                self.solves_soon((5, 5, [table(5, 5, lambda x, y: most * (x == y) + draw.randint(0, most) // 50)
                                         for field in range(3)]))
                self.solves_soon((5, 5, [drawn_field(draw, 5, 5, most) for field in range(3)]))

    def test_even_battles(self):
        draw = random.Random(122)
        for most in (1, BIG):
            paper = self.solves((4, 4, [even_table(draw, 4, most) for field in range(3)]), 0)
            for field, x, y in standings(paper):
                self.assertEqual(Fraction(*paper[field][x][y][0]), -Fraction(*paper[field][y][x][0]))

    def test_of_one_field_and_of_two_it_is_the_battles_worth(self):
        draw = random.Random(123)
        for first, second, fields in itertools.product((0, 1, 3, 5), (0, 2, 5), (1, 2)):
            battle = drawn_battle(f"same {first} {second} {fields}", first, second, fields, draw.choice((2, BIG)))
            self.solves(battle, Fraction(*battle_worth(battle)[0]))

    def test_the_first_side_keeps_each_standings_worth_whatever_is_sent(self):
        # By all ways that the second side can go on, against the weights told.
        def least(battle, paper, field, x, y):
            if field == len(paper):
                return Fraction(0)
            rows = paper[field][x][y][1]
            last = field == len(paper) - 1
            ways = []
            for b in ([y] if last else range(y + 1)):
                total = sum(weight * (pay(battle, field, a, b) + least(battle, paper, field + 1, x - a, y - b))
                            for a, weight in enumerate(rows) if weight)
                ways.append(total / sum(rows))
            return min(ways)

        for trial in range(6):
            battle = drawn_battle(f"ways {trial}", 2, 2, 3)
            paper = self.solves(battle)
            for field, x, y in standings(paper):
                self.assertEqual(least(battle, paper, field, x, y), Fraction(*paper[field][x][y][0]))

    def test_refusals(self):
        more = ("more", 1, 0)
        for battle in ((6, 5, [more]), (5, 6, [more]), (5, 5, [more] * 4), (0, 0, [more] * 4), (10, 10, [more] * 5),
                       (6, 0, [more]), (0, 10, [more] * 3)):
            look_battle(battle)
            self.refused("TooGreat", seen_paper, battle)
            self.refused("TooGreat", seen_worth, battle)
            for paper in (None, [], MEET_PAPER):
                self.refused("TooGreat", seen_judged, battle, paper)

    def test_no_battle_goes_ahead(self):
        more = ("more", 1, 0)
        for battle, field in (((6, 5, [more, ("more", 0, 0)]), 1), ((11, 5, [more]), -1), ((5, 5, []), -1),
                              ((5, 5, [more] * 6), -1), ((5, 5, [more] * 3 + [("lead", 0, 0)]), 3),
                              ((1, 1, [("table", [[0, 0], [0, None]])]), 0), ((True, 1, [more]), -1)):
            self.assertEqual(self.refused("NoBattle", seen_paper, battle).field, field)
            self.assertEqual(self.refused("NoBattle", seen_worth, battle).field, field)
            for paper in (None, [], MEET_PAPER):
                self.assertEqual(self.refused("NoBattle", seen_judged, battle, paper).field, field)

    def test_what_was_handed_in_may_be_changed_behind(self):
        rows = [[0, 0], [0, 1]]
        battle = (1, 1, [("table", rows), ("table", rows)])
        told = seen_paper(battle)
        kept = repr(told)
        rows[1][1] = 5
        self.assertEqual(repr(told), kept)
        self.assertEqual(told[0][1][1][0], (1, 2))
        self.solves(battle, Fraction(5, 2))


class SeenJudgedTest(SeenTest):
    def test_by_hand(self):
        self.tells(None, seen_judged, MEET, MEET_PAPER)
        for place, standing in (((0, 1, 1), ((2, 3), [1, 1], [2, 1])), ((0, 1, 1), ((2, 3), [2, 1], [1, 1])),
                                ((0, 1, 1), ((1, 1), [2, 1], [2, 1])), ((0, 1, 1), ((0, 1), [2, 1], [2, 1])),
                                ((1, 1, 1), ((1, 1), [1, 1], [0, 1])), ((1, 1, 1), ((1, 1), [0, 1], [1, 1])),
                                ((1, 1, 1), ((2, 1), [0, 1], [0, 1])), ((1, 1, 0), ((0, 1), [1, 0], [1])),
                                ((1, 0, 1), ((0, 1), [1], [1, 0]))):
            self.tells(("standing",) + place, seen_judged, MEET, with_standing(MEET_PAPER, place, standing))

    def test_weights_may_be_so_many_times_as_great(self):
        for many in (2, BIG, 10 ** 900):
            paper = [[[(worth, [many * weight for weight in rows], [many * weight for weight in columns])
                       for worth, rows, columns in row] for row in rows] for rows in MEET_PAPER]
            self.tells(None, seen_judged, MEET, paper)

    def test_each_standing_with_its_worth_a_little_more_and_less(self):
        for size in ((0, 0, 1), (2, 1, 1), (1, 2, 2), (2, 2, 3), (3, 3, 3)):
            for most in (2, BIG):
                battle = drawn_battle(f"little {size} {most}", *size, most)
                paper = seen_paper(battle)
                for place in standings(paper):
                    field, x, y = place
                    worth, rows, columns = paper[field][x][y]
                    for little in (1, -1, Fraction(1, BIG), Fraction(-1, BIG), Fraction(1, 10 ** 900)):
                        bent = with_standing(paper, place, (pair(Fraction(*worth) + little), rows, columns))
                        self.tells(("standing",) + place, seen_judged, battle, bent)

    def test_weights_bent(self):
        draw = random.Random(124)
        seen = {None: 0, "standing": 0}
        for trial in range(400):
            size = (draw.randint(0, 3), draw.randint(0, 3), draw.randint(1, 3))
            battle = drawn_battle(f"bent {trial}", *size, 2)
            paper = seen_paper(battle)
            place = draw.choice(list(standings(paper)))
            field, x, y = place
            worth, rows, columns = paper[field][x][y]
            rows, columns = list(rows), list(columns)
            weights = draw.choice((rows, columns))
            weights[draw.randrange(len(weights))] += draw.choice((1, 1, BIG))
            bent = with_standing(paper, place, (worth, rows, columns))
            answer = judged_by_words(battle, bent)
            self.tells(answer, seen_judged, battle, bent)
            seen[answer and answer[0]] += 1
        self.assertGreater(min(seen.values()), 30)

    def test_weights_that_are_none(self):
        for place in standings(MEET_PAPER):
            field, x, y = place
            worth, rows, columns = MEET_PAPER[field][x][y]
            for weights in (rows, columns):
                others = columns if weights is rows else rows
                for wrong in ([], weights[:-1], weights + [0], weights + [1], [0] * len(weights), [-1] * len(weights),
                              [-1] + [5] * (len(weights) - 1), tuple(weights), [True] * len(weights), None, 1, "ab",
                              [None] * len(weights), [[weight] for weight in weights], [str(w) for w in weights]):
                    standing = (worth, wrong, others) if weights is rows else (worth, others, wrong)
                    self.tells(("form",), seen_judged, MEET, with_standing(MEET_PAPER, place, standing))

    def test_worths_that_are_no_fractions(self):
        for place in standings(MEET_PAPER):
            field, x, y = place
            for wrong in NO_FRACTIONS:
                standing = (wrong,) + MEET_PAPER[field][x][y][1:]
                self.tells(("form",), seen_judged, MEET, with_standing(MEET_PAPER, place, standing))

    def test_something_of_another_kind_at_each_place(self):
        for bent in bent_at_each_place(MEET_PAPER):
            self.tells(("form",), seen_judged, MEET, bent)

    def test_a_list_more_or_fewer(self):
        standing = ((0, 1), [1], [1])
        for wrong in (None, [], MEET_PAPER[:1], MEET_PAPER + [[]], MEET_PAPER + MEET_PAPER[:1], MEET_PAPER[0],
                      [MEET_PAPER], tuple(MEET_PAPER), (MEET_PAPER,)):
            self.tells(("form",), seen_judged, MEET, wrong)
        for field in range(2):
            right = MEET_PAPER[field]
            for rows in (right[:1], right + [[]], right + right[:1], []):
                bent = MEET_PAPER[:field] + [rows] + MEET_PAPER[field + 1:]
                self.tells(("form",), seen_judged, MEET, bent)
            for x in range(2):
                row = MEET_PAPER[field][x]
                for wrong in (row[:1], row + [standing], row + row[:1], [], row + [None]):
                    rows = MEET_PAPER[field][:x] + [wrong] + MEET_PAPER[field][x + 1:]
                    self.tells(("form",), seen_judged, MEET, MEET_PAPER[:field] + [rows] + MEET_PAPER[field + 1:])

    def test_a_standing_is_a_tuple_of_three(self):
        for place in standings(MEET_PAPER):
            field, x, y = place
            standing = MEET_PAPER[field][x][y]
            for wrong in (None, (), standing[:2], standing + (1,), list(standing), [standing], (standing,), 0, "abc"):
                self.tells(("form",), seen_judged, MEET, with_standing(MEET_PAPER, place, wrong))

    def test_the_first_standing_that_is_not_right_of_two(self):
        battle = drawn_battle(125, 2, 2, 3)
        paper = seen_paper(battle)
        order = list(standings(paper))
        for one, other in itertools.combinations(order, 2):
            bent = paper
            for field, x, y in (one, other):
                worth, rows, columns = paper[field][x][y]
                bent = with_standing(bent, (field, x, y), (pair(Fraction(*worth) + 1), rows, columns))
            self.tells(("standing",) + one, seen_judged, battle, bent)

    def test_form_goes_ahead_of_standings(self):
        bent = with_standing(MEET_PAPER, (1, 1, 1), ((5, 1), [0, 1], [0, 1]))
        self.tells(("standing", 1, 1, 1), seen_judged, MEET, bent)
        self.tells(("form",), seen_judged, MEET, with_standing(bent, (0, 0, 0), ((0, 1), [0], [1])))

    def test_a_worth_behind_that_is_not_right_is_told_first(self):
        # What stands ahead leans on what is told behind, right or not.
        battle = drawn_battle(126, 2, 2, 2)
        paper = seen_paper(battle)
        for x, y in itertools.product(range(3), repeat=2):
            worth, rows, columns = paper[1][x][y]
            bent = with_standing(paper, (1, x, y), (pair(Fraction(*worth) - 1), rows, columns))
            self.tells(("standing", 1, x, y), seen_judged, battle, bent)

    def test_numbers_of_whatever_size(self):
        great = 10 ** 900
        more = pair(Fraction(2, 3) + Fraction(1, great))
        bent = with_standing(MEET_PAPER, (0, 1, 1), (more, [2 * great, great], [2, 1]))
        self.tells(("standing", 0, 1, 1), seen_judged, MEET, bent)
        bent = with_standing(MEET_PAPER, (0, 1, 1), ((2, 3), [2 * great, great + 1], [2, 1]))
        self.tells(("standing", 0, 1, 1), seen_judged, MEET, bent)
        bent = with_standing(MEET_PAPER, (1, 1, 1), ((great, 1), [0, great], [0, 1]))
        self.tells(("standing", 1, 1, 1), seen_judged, MEET, bent)

    def test_drawn_papers_by_words(self):
        # Whoever wrote the paper: worths and weights are drawn, not reckoned.
        draw = random.Random(127)
        for trial in range(200):
            battle = drawn_battle(f"drawn {trial}", draw.randint(0, 1), draw.randint(0, 1), draw.randint(1, 2), 1)
            paper = [[[((draw.randint(-1, 1), 1), [0] * x + [1], [0] * y + [1]) for y in range(battle[1] + 1)]
                      for x in range(battle[0] + 1)] for field in battle[2]]
            self.tells(judged_by_words(battle, paper), seen_judged, battle, paper)

    def test_no_papers_that_are_let_by_have_unlike_worths(self):
        let_by = []
        for rows, columns in itertools.product(((1, 0), (0, 1), (1, 1), (1, 2), (2, 1)), repeat=2):
            for top, bottom in itertools.product(range(-6, 7), range(1, 7)):
                worth = pair(Fraction(top, bottom))
                standing = (worth, list(rows), list(columns))
                if seen_judged(MEET, with_standing(MEET_PAPER, (0, 1, 1), standing)) is None:
                    let_by.append((worth, rows, columns))
        self.assertEqual(set(let_by), {((2, 3), (2, 1), (2, 1))})


if __name__ == "__main__":
    unittest.main()
