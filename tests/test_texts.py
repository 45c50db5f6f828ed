import itertools
import random
import unittest

from hostfields.changes import scaled
from hostfields.finder import battle_worth
from hostfields.judge import judged
from hostfields.mixes import stream_of
from hostfields.texts import battle_text, paper_text, read_battle, read_paper
from helper import BIG, HostTest, drawn_battle, drawn_mix, papers, table

GREATEST = 10 ** 2000 - 1

BATTLE = (2, 1, [("more", 3, -1), ("lead", 5, 2), ("table", [[0, 1], [-2, 3], [4, -50]])])
BATTLE_ROWS = ["hosts 2 1", "more 3 -1", "lead 5 2", "table 0 1 -2 3 4 -50"]

PAPER = ([[(2, 1, 1), (2, 2, 1)], [(0, 0, 1), (1, 1, 1)]], [[9, 3], [3, -3]])
PAPER_ROWS = ["flow 0 2 1 1", "flow 0 2 2 1", "flow 1 0 0 1", "flow 1 1 1 1",
              "number 0 0 9", "number 0 1 3", "number 1 0 3", "number 1 1 -3"]

NO_NUMBERS = ("", "-", "+1", "-0", "--1", "00", "01", "-01", "0x1", "1.0", "1e3", "1_0", "a", "1a", "a1", "1-", "- 1",
              "one", "1,", "1/2", "1" * 2001, "-" + "1" * 2001, "0" * 2000, "~", "1\t")


def text_of(rows):
    return "".join(row + "\n" for row in rows)


def with_row(rows, place, row):
    return rows[:place] + [row] + rows[place + 1:]


class TextsTest(HostTest):
    def no_text(self, call, text, row):
        error = self.refused("NoText", call, text)
        self.assertEqual([type(error.row), error.row], [int, row], repr(text)[:300])


class BattleTextTest(TextsTest):
    def there_and_back(self, battle):
        text = self.told(battle_text, battle)
        self.tells(battle, read_battle, text)
        return text

    def test_by_hand(self):
        self.tells(text_of(BATTLE_ROWS), battle_text, BATTLE)
        self.tells(BATTLE, read_battle, text_of(BATTLE_ROWS))
        self.tells("hosts 0 0\ntable -7\n", battle_text, (0, 0, [("table", [[-7]])]))
        self.tells("hosts 10 0\nlead 1 0\n", battle_text, (10, 0, [("lead", 1, 0)]))

    def test_there_and_back(self):
        for seed, size in enumerate(((0, 0, 1), (0, 10, 2), (10, 0, 3), (3, 4, 4), (10, 10, 5), (1, 2, 5))):
            for most in (1, 9, BIG):
                self.there_and_back(drawn_battle(f"texts {seed} {most}", *size, most))

    def test_numbers_of_two_thousand_figures(self):
        for number in (GREATEST, 10 ** 1999):
            text = self.there_and_back((1, 0, [("more", number, -number), ("more", number, 0), ("lead", 1, -number),
                                               ("lead", number, number), ("table", [[-number], [number]])]))
            self.assertIn("-" + str(number), text)

    def test_scaled_battles(self):
        battle = BATTLE
        for times in range(1, 60):
            battle = scaled(battle, BIG)
            self.assertEqual(read_battle(battle_text(battle)), battle)

    def test_no_battle(self):
        for battle, field in (((2, 1, []), -1), ((2, 11, BATTLE[2]), -1), ((2, 1, [("more", 3, 4)]), 0),
                              ((2, 2, BATTLE[2]), 2), ((2, 1, [("more", 3, 0), ("less",)]), 1)):
            self.assertEqual(self.refused("NoBattle", battle_text, battle).field, field)

    def test_what_was_handed_in_may_be_changed_behind(self):
        told = read_battle("hosts 1 0\ntable 3 4\n")
        told[2][0][1][0][0] = 9
        self.tells((1, 0, [("table", [[3], [4]])]), read_battle, "hosts 1 0\ntable 3 4\n")


class ReadBattleTest(TextsTest):
    def test_a_word_that_is_no_number(self):
        for place, row in enumerate(BATTLE_ROWS):
            words = row.split(" ")
            for word, wrong in itertools.product(range(1, len(words)), NO_NUMBERS):
                bent = " ".join(words[:word] + [wrong] + words[word + 1:])
                self.no_text(read_battle, text_of(with_row(BATTLE_ROWS, place, bent)), place)

    def test_a_word_more_or_fewer(self):
        for place, row in enumerate(BATTLE_ROWS[:3]):
            words = row.split(" ")
            for bent in (words[:-1], words[:1], words + ["1"], words + ["0", "1"], words[1:]):
                self.no_text(read_battle, text_of(with_row(BATTLE_ROWS, place, " ".join(bent))), place)

    def test_a_table_without_numbers(self):
        self.no_text(read_battle, text_of(with_row(BATTLE_ROWS, 3, "table")), 3)
        self.no_text(read_battle, text_of(with_row(BATTLE_ROWS, 1, "table")), 1)

    def test_a_table_of_another_count_of_numbers(self):
        for numbers in ("0", "0 1 2 3 4", "0 1 2 3 4 5 6", "0 1 2 3 4 5 6 7 8 9 10 11", "0 1"):
            self.no_text(read_battle, text_of(with_row(BATTLE_ROWS, 3, "table " + numbers)), 4)
            self.no_text(read_battle, text_of(with_row(BATTLE_ROWS, 1, "table " + numbers)), 4)

    def test_blanks(self):
        for place, row in enumerate(BATTLE_ROWS):
            bents = [" " + row, row + " ", "", " ", "  "]
            bents += [row[:at] + " " + row[at:] for at, sign in enumerate(row) if sign == " "]
            bents += [row.replace(" ", "", 1), row.replace(" ", "\t"), row.replace(" ", ",")]
            for bent in bents:
                self.no_text(read_battle, text_of(with_row(BATTLE_ROWS, place, bent)), place)

    def test_another_first_word(self):
        for place, row in enumerate(BATTLE_ROWS):
            rest = row.split(" ", 1)[1]
            for word in ("", "More", "MORE", "mor", "moree", "field", "flow", "number", "1", "host", "hostss", "Table"):
                self.no_text(read_battle, text_of(with_row(BATTLE_ROWS, place, word + " " + rest)), place)

    def test_a_row_in_another_place(self):
        self.no_text(read_battle, text_of(BATTLE_ROWS[1:]), 0)
        self.no_text(read_battle, text_of(BATTLE_ROWS[1:] + BATTLE_ROWS[:1]), 0)
        for place in range(1, 5):
            self.no_text(read_battle, text_of(BATTLE_ROWS[:place] + ["hosts 2 1"] + BATTLE_ROWS[place:]), place)
            self.no_text(read_battle, text_of(BATTLE_ROWS[:place] + [""] + BATTLE_ROWS[place:]), place)
        self.no_text(read_battle, text_of([""] + BATTLE_ROWS), 0)
        # Fields' rows may stand in any order among themselves, and be there twice.
        moved = [BATTLE_ROWS[0], BATTLE_ROWS[3], BATTLE_ROWS[1], BATTLE_ROWS[1]]
        self.tells((2, 1, [BATTLE[2][2], BATTLE[2][0], BATTLE[2][0]]), read_battle, text_of(moved))

    def test_each_row_left_out(self):
        for place in range(1, 4):
            left = BATTLE[2][:place - 1] + BATTLE[2][place:]
            self.tells((2, 1, left), read_battle, text_of(BATTLE_ROWS[:place] + BATTLE_ROWS[place + 1:]))
        self.no_text(read_battle, text_of(BATTLE_ROWS[:1]), 1)
        self.no_text(read_battle, "", 0)

    def test_line_ends(self):
        text = text_of(BATTLE_ROWS)
        self.no_text(read_battle, text[:-1], 3)
        self.no_text(read_battle, text + "\n", 4)
        self.no_text(read_battle, text + "\n\n", 4)
        self.no_text(read_battle, "\n", 0)
        self.no_text(read_battle, "\n" + text, 0)
        self.no_text(read_battle, text + "more 1 0", 4)
        self.no_text(read_battle, text + " ", 4)
        self.no_text(read_battle, "hosts 2 1", 0)
        self.no_text(read_battle, "h", 0)
        self.no_text(read_battle, text.replace("\n", " "), 0)
        self.no_text(read_battle, text.replace("\n", ", "), 0)
        # The first row that is not of its form goes ahead of one that lacks its line end.
        self.no_text(read_battle, "hosts 2 1\nmore 3\nlead 1 1", 1)

    def test_the_first_row_of_several(self):
        self.no_text(read_battle, text_of(["hosts 2 1", "more 1", "lead", "hosts 1 1"]), 1)
        self.no_text(read_battle, text_of(["hosts 2 1", "more 1 1", "lead", "none 1 1"]), 2)
        # A row that is not of its form, though behind one that makes it no battle.
        self.no_text(read_battle, text_of(["hosts 99 1", "more 0 0", "lead 1 a"]), 2)

    def test_what_is_no_battle(self):
        for hosts in ("11 1", "2 11", "-1 1", "2 -1", f"{BIG} {BIG}", f"{GREATEST} {GREATEST}", f"-{GREATEST} 2"):
            self.no_text(read_battle, text_of(["hosts " + hosts] + BATTLE_ROWS[1:]), 4)
            self.no_text(read_battle, text_of(["hosts " + hosts, "more 1 0"]), 2)
        self.no_text(read_battle, text_of(["hosts 2 1"] + ["more 1 0"] * 6), 7)
        self.no_text(read_battle, text_of(["hosts 2 1"] + ["more 1 0"] * 60), 61)
        self.no_text(read_battle, text_of(["hosts 2 1", "more 0 0"]), 2)
        self.no_text(read_battle, text_of(["hosts 2 1", "more 3 4"]), 2)
        self.no_text(read_battle, text_of(["hosts 2 1", "more 3 0", "lead -1 0"]), 3)
        # As many numbers as hosts below 0 would ask for.
        self.no_text(read_battle, text_of(["hosts -2 -3", "table 1 2"]), 2)
        self.no_text(read_battle, text_of(["hosts -2 -2", "table 1"]), 2)

    def test_the_edges_that_are_battles(self):
        self.tells((10, 10, [("more", 1, 1)] * 5), read_battle, text_of(["hosts 10 10"] + ["more 1 1"] * 5))
        self.tells((0, 0, [("more", 1, -1)]), read_battle, "hosts 0 0\nmore 1 -1\n")

    def test_numbers_of_two_thousand_figures(self):
        self.tells((0, 0, [("lead", GREATEST, -GREATEST)]), read_battle, f"hosts 0 0\nlead {GREATEST} -{GREATEST}\n")
        self.no_text(read_battle, f"hosts 0 0\nlead {GREATEST + 1} 1\n", 1)
        self.no_text(read_battle, f"hosts 0 0\nlead 1 {-GREATEST - 1}\n", 1)


class PaperTextTest(TextsTest):
    def test_by_hand(self):
        self.tells(text_of(PAPER_ROWS), paper_text, PAPER)
        self.tells(PAPER, read_paper, text_of(PAPER_ROWS))
        self.tells("flow 0 0 0 7\nnumber 0 0 -5\n", paper_text, ([[(0, 0, 7)]], [[-5]]))

    def test_there_and_back(self):
        for battle, side, mix, paper in papers():
            self.tells(paper, read_paper, self.told(paper_text, paper))

    def test_papers_of_worths_there_and_back(self):
        for seed in range(3):
            battle = drawn_battle(f"papers {seed}", 7, 7, 4, BIG)
            worth, one, other = battle_worth(battle)
            self.assertIsNone(judged(battle, "first", worth, self.told(read_paper, paper_text(one))))
            self.assertIsNone(judged(battle, "second", worth, self.told(read_paper, paper_text(other))))

    def test_great_streams(self):
        draw = random.Random(111)
        stream = stream_of(drawn_mix(draw, 40, 8, 50))
        paper = (stream, [[BIG - count for count in range(41)] for field in range(8)])
        self.tells(paper, read_paper, self.told(paper_text, paper))

    def test_tuples_and_numbers_are_any(self):
        rows = [f"flow 0 {-GREATEST} {GREATEST} 0", "flow 0 9 9 -9", "flow 0 9 9 -9", "flow 1 0 5 0",
                f"number 0 0 {GREATEST}", "number 1 0 0", "number 1 1 -1", "number 1 2 5", "number 2 0 0"]
        paper = ([[(-GREATEST, GREATEST, 0), (9, 9, -9), (9, 9, -9)], [(0, 5, 0)]], [[GREATEST], [0, -1, 5], [0]])
        self.tells(paper, read_paper, text_of(rows))
        self.tells(text_of(rows), paper_text, paper)

    def test_what_was_handed_in_may_be_changed_behind(self):
        told = read_paper(text_of(PAPER_ROWS))
        told[0][0].pop()
        told[1].clear()
        self.tells(PAPER, read_paper, text_of(PAPER_ROWS))


class ReadPaperTest(TextsTest):
    def test_a_word_that_is_no_number(self):
        for place, row in enumerate(PAPER_ROWS):
            words = row.split(" ")
            for word, wrong in itertools.product(range(1, len(words)), NO_NUMBERS):
                bent = " ".join(words[:word] + [wrong] + words[word + 1:])
                self.no_text(read_paper, text_of(with_row(PAPER_ROWS, place, bent)), place)

    def test_a_word_more_or_fewer(self):
        for place, row in enumerate(PAPER_ROWS):
            words = row.split(" ")
            for bent in (words[:-1], words[:1], words + ["1"], words + ["0", "1"], words[1:], []):
                self.no_text(read_paper, text_of(with_row(PAPER_ROWS, place, " ".join(bent))), place)

    def test_blanks(self):
        for place, row in enumerate(PAPER_ROWS):
            bents = [" " + row, row + " ", "", " ", row.replace(" ", "\t")]
            bents += [row[:at] + " " + row[at:] for at, sign in enumerate(row) if sign == " "]
            for bent in bents:
                self.no_text(read_paper, text_of(with_row(PAPER_ROWS, place, bent)), place)

    def test_another_first_word(self):
        for place, row in enumerate(PAPER_ROWS):
            rest = row.split(" ", 1)[1]
            for word in ("", "Flow", "flo", "flows", "numbers", "table", "hosts", "more", "lead", "1"):
                self.no_text(read_paper, text_of(with_row(PAPER_ROWS, place, word + " " + rest)), place)

    def test_flows_fields_that_leap_fall_or_begin_elsewhere(self):
        for wrong in (1, -1, 2, BIG):
            self.no_text(read_paper, text_of(with_row(PAPER_ROWS, 0, f"flow {wrong} 2 1 1")), 0)
        for wrong in (2, -1, BIG):
            self.no_text(read_paper, text_of(with_row(PAPER_ROWS, 1, f"flow {wrong} 2 1 1")), 1)
        for wrong in (0, 3, -1, BIG):
            self.no_text(read_paper, text_of(with_row(PAPER_ROWS, 3, f"flow {wrong} 2 1 1")), 3)
        self.no_text(read_paper, text_of(["flow 0 1 1 1", "flow 1 1 1 1", "flow 3 1 1 1", "number 0 0 0"]), 2)

    def test_numbers_places_that_leap_fall_or_begin_elsewhere(self):
        for first in ("1 0", "0 1", "-1 0", "0 -1", "1 1", f"{BIG} 0"):
            self.no_text(read_paper, text_of(PAPER_ROWS[:4] + [f"number {first} 9"]), 4)
            self.no_text(read_paper, text_of([f"number {first} 9"]), 0)
        for second in ("0 0", "0 2", "0 -1", "1 1", "2 0", "-1 0", "1 -1", f"0 {BIG}"):
            self.no_text(read_paper, text_of(PAPER_ROWS[:5] + [f"number {second} 9"]), 5)
        for later in ("1 0", "1 2", "0 1", "0 2", "2 1", "3 0", "0 0"):
            self.no_text(read_paper, text_of(PAPER_ROWS[:7] + [f"number {later} 9"]), 7)

    def test_each_row_left_out_or_twice(self):
        # Only where the rows behind it still follow one another is it a paper.
        for place in range(8):
            rows = PAPER_ROWS[:place] + PAPER_ROWS[place + 1:]
            if place in (0, 1, 2, 3, 5, 7):
                told = self.told(read_paper, text_of(rows))
                self.tells(text_of(rows), paper_text, told)
            else:
                self.no_text(read_paper, text_of(rows), place)
            rows = PAPER_ROWS[:place + 1] + PAPER_ROWS[place:]
            if place < 4:
                self.assertEqual(paper_text(self.told(read_paper, text_of(rows))), text_of(rows))
            else:
                self.no_text(read_paper, text_of(rows), place + 1)

    def test_a_flow_behind_a_number(self):
        for place in range(5, 9):
            for flow in ("flow 0 2 1 1", "flow 1 2 1 1", "flow 2 1 1 1"):
                self.no_text(read_paper, text_of(PAPER_ROWS[:place] + [flow] + PAPER_ROWS[place:]), place)
        self.no_text(read_paper, text_of(["number 0 0 1", "flow 0 1 1 1"]), 1)
        self.no_text(read_paper, text_of(["number 0 0 1", "number 0 1 1", "flow 0 1 1 1"]), 2)

    def test_no_flow_or_no_number(self):
        for many in range(1, 5):
            self.no_text(read_paper, text_of(PAPER_ROWS[:many]), many)
            self.no_text(read_paper, text_of(PAPER_ROWS[4:4 + many]), many)
        self.no_text(read_paper, "", 0)
        self.no_text(read_paper, "\n", 0)

    def test_line_ends(self):
        text = text_of(PAPER_ROWS)
        self.no_text(read_paper, text[:-1], 7)
        self.no_text(read_paper, text + "\n", 8)
        self.no_text(read_paper, "\n" + text, 0)
        self.no_text(read_paper, text + "number 2 0 0", 8)
        self.no_text(read_paper, "flow 0 0 0 1", 0)
        self.no_text(read_paper, "flow 0 0 0 1\nnumber 0 0 1", 1)
        self.no_text(read_paper, "flow 0 0 0 1\nnumber 0 1 1\nnumber 0 2 1", 1)

    def test_a_battles_text_is_no_papers(self):
        self.no_text(read_paper, text_of(BATTLE_ROWS), 0)
        self.no_text(read_battle, text_of(PAPER_ROWS), 0)

    def test_figures_of_a_table(self):
        battle = (10, 10, [table(10, 10, lambda x, y: 10 ** (x * y) - 5)] * 5)
        self.tells(battle, read_battle, self.told(battle_text, battle))


if __name__ == "__main__":
    unittest.main()
