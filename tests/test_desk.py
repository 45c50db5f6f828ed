import copy
import itertools
import random
import unittest

from hostfields.changes import exchanged, scaled
from hostfields.desk import Desk
from hostfields.errors import HostError, NoPlace
from hostfields.fields import gain
from hostfields.finder import battle_worth
from hostfields.judge import judged
from hostfields.least import answer_table
from hostfields.mixes import stream_of, taken_apart
from hostfields.plays import mixed_gain, played
from hostfields.seen import seen_worth
from hostfields.texts import battle_text, read_battle
from helper import BIG, HostTest, all_plans, drawn_battle

GREATEST = 10 ** 2000 - 1

NO_NAMES = ("", "A", "aB", "a1", "1", "a-b", "a_b", "abcdefghi", "Abcdefgh", "a\n", "~", "names1", "a" * 200)
NO_NUMBERS = ("", "-", "+1", "-0", "00", "01", "1.0", "1a", "a", "x", "1_0", "--1", "1\n", "1" * 2001)

# A battle for the desk, and what else may be asked of it.
ROWS = ("battle a 2 1", "field a more 3 -1", "field a lead 5 2", "field a table 0 1 -2 3 4 -50")
SHOWN = "hosts 2 1, more 3 -1, lead 5 2, table 0 1 -2 3 4 -50"
BATTLE = (2, 1, [("more", 3, -1), ("lead", 5, 2), ("table", [[0, 1], [-2, 3], [4, -50]])])


def desk_of(*rows):
    desk = Desk()
    for row in rows:
        desk.say(row)
    return desk


def told_rows(name, battle):
    """The rows that tell a desk a battle."""
    rows = battle_text(battle).splitlines()
    return [f"battle {name} {battle[0]} {battle[1]}"] + [f"field {name} {row}" for row in rows[1:]]


def state(desk):
    """All that a desk holds, what may be taken back with it, without changing it."""
    desk = copy.deepcopy(desk)
    told = {}
    for name in desk.say("names").split():
        told[name] = [desk.say("show " + name)]
        try:
            while desk.say("back " + name):
                told[name].append(desk.say("show " + name))
        except NoPlace:
            pass
    return told


class DeskTest(HostTest):
    def says(self, desk, *rows_and_answers):
        for row, answer in zip(rows_and_answers[::2], rows_and_answers[1::2], strict=True):
            told = desk.say(row)
            self.assertEqual([type(told), told], [str, answer], row)

    def refuses(self, name, desk, *rows):
        """Each row is refused by this class and changes nothing; tell the last error."""
        ahead = state(desk)
        for row in rows:
            error = self.refused(name, desk.say, row)
            self.assertEqual(state(desk), ahead, row)
        return error

    def refuses_battle(self, desk, field, *rows):
        for row in rows:
            self.assertEqual(self.refuses("NoBattle", desk, row).field, field, row)


class RowsTest(DeskTest):
    def test_a_battle_is_told_and_shown(self):
        desk = Desk()
        self.says(desk, "names", "", "battle a 2 1", "ok", "names", "a", "show a", "hosts 2 1",
                  "field a more 3 -1", "ok", "show a", "hosts 2 1, more 3 -1", "field a lead 5 2", "ok",
                  "field a table 0 1 -2 3 4 -50", "ok", "show a", SHOWN)

    def test_names(self):
        desk = desk_of("battle b 1 1", "battle abcdefgh 0 0", "battle aa 10 10", "battle z 1 1", "battle a 1 1")
        self.says(desk, "names", "a aa abcdefgh b z", "drop aa", "ok", "names", "a abcdefgh b z",
                  "battle b 2 2", "ok", "names", "a abcdefgh b z")

    def test_battle_stands_in_the_place_of_an_elder_one(self):
        desk = desk_of(*ROWS)
        self.says(desk, "battle a 0 10", "ok", "show a", "hosts 0 10")
        self.refuses("NoPlace", desk, "back a", "cut a 0")

    def test_field_of_each_form(self):
        desk = desk_of("battle a 1 0")
        self.says(desk, "field a table 7", "ok", "field a table 1 2 3 4 5 6 7 8 9", "ok", "field a table 1 2", "ok",
                  "field a more 0 9", "ok", "field a lead -1 -9", "ok", "show a",
                  "hosts 1 0, table 7, table 1 2 3 4 5 6 7 8 9, table 1 2, more 0 9, lead -1 -9")

    def test_cut(self):
        for place, shown in ((0, "hosts 2 1, lead 5 2, table 0 1 -2 3 4 -50"),
                             (1, "hosts 2 1, more 3 -1, table 0 1 -2 3 4 -50"), (2, "hosts 2 1, more 3 -1, lead 5 2")):
            self.says(desk_of(*ROWS), f"cut a {place}", "ok", "show a", shown)
        self.says(desk_of(*ROWS), "cut a 0", "ok", "cut a 0", "ok", "cut a 0", "ok", "show a", "hosts 2 1")

    def test_hosts(self):
        desk = desk_of(*ROWS)
        self.says(desk, "hosts a 1 2", "ok", "show a", SHOWN.replace("2 1", "1 2"),
                  "hosts a 10 0", "ok", "hosts a 0 0", "ok", "show a", SHOWN.replace("2 1", "0 0"))

    def test_swap(self):
        desk = desk_of(*ROWS)
        self.says(desk, "swap a", "ok", "show a", "hosts 1 2, more 3 1, lead 5 -1, table 0 2 -4 -1 -3 50",
                  "swap a", "ok", "show a", SHOWN)

    def test_times(self):
        desk = desk_of(*ROWS)
        self.says(desk, "times a 10", "ok", "show a", "hosts 2 1, more 30 -10, lead 50 2, table 0 10 -20 30 40 -500",
                  "times a 1", "ok", f"times a {BIG}", "ok", "cut a 2", "ok", "show a",
                  f"hosts 2 1, more {30 * BIG} {-10 * BIG}, lead {50 * BIG} 2")

    def test_worth_and_seen(self):
        desk = desk_of("battle a 1 1", "field a table 0 0 0 2", "field a table 0 0 0 1")
        self.says(desk, "worth a", "2/3", "seen a", "2/3", "swap a", "ok", "worth a", "-2/3", "seen a", "-2/3",
                  "times a 3", "ok", "worth a", "-2/1", "battle a 0 0", "ok", "field a more 3 0", "ok",
                  "worth a", "0/1", "seen a", "0/1")

    def test_mix(self):
        desk = desk_of("battle a 1 1", "field a table 0 0 0 2", "field a table 0 0 0 1")
        for side in ("first", "second"):
            self.assertIn(desk.say(f"mix a {side}"), ("2: 0 1, 1: 1 0", "1: 1 0, 2: 0 1"))
        self.says(desk_of("battle a 3 0", "field a more 1 0"), "mix a first", "1: 3", "mix a second", "1: 0")

    def test_win(self):
        desk = desk_of(*ROWS)
        for one, other in itertools.product(all_plans(2, 3), all_plans(1, 3)):
            numbers = " ".join(str(number) for number in one + other)
            self.says(desk, "win a " + numbers, str(gain(BATTLE, one, other)))

    def test_play(self):
        desk = desk_of("battle a 1 1", "field a table 0 0 0 2", "field a table 0 0 0 1")
        for side in ("first", "second"):
            played_plans = [desk.say(f"play a {side} {number}") for number in range(3)]
            self.assertEqual(sorted(played_plans), ["0 1", "0 1", "1 0"])
            self.refuses("NoNumber", desk, f"play a {side} 3", f"play a {side} -1", f"play a {side} {BIG}")


class AnswersTest(DeskTest):
    def asks(self, battle):
        """See that the desk's answers are those of the functions that they stand for, and what the judge asks."""
        desk = desk_of(*told_rows("some", battle))
        self.says(desk, "show some", battle_text(battle)[:-1].replace("\n", ", "))
        worth, one, other = battle_worth(battle)
        self.says(desk, "worth some", f"{worth[0]}/{worth[1]}")
        mixes = []
        for side, paper in (("first", one), ("second", other)):
            mix = []
            for part in desk.say(f"mix some {side}").split(", "):
                weight, numbers = part.split(": ")
                mix.append(([int(number) for number in numbers.split(" ")], int(weight)))
            self.assertEqual(mix, taken_apart(paper[0]))
            stream = stream_of(mix)
            self.assertIsNone(judged(battle, side, worth, (stream, answer_table(battle, side, stream))))
            mixes.append(mix)
            whole = sum(weight for plan, weight in mix)
            for number in (0, whole // 2, whole - 1):
                plan = " ".join(str(sent) for sent in played(mix, number))
                self.says(desk, f"play some {side} {number}", plan)
            self.refuses("NoNumber", desk, f"play some {side} {whole}")
        self.assertEqual(mixed_gain(battle, *mixes), worth)
        if max(battle[:2]) <= 5 and len(battle[2]) <= 3:
            told = seen_worth(battle)
            self.says(desk, "seen some", f"{told[0]}/{told[1]}")
        else:
            self.refuses("TooGreat", desk, "seen some")

    def test_drawn_battles(self):
        for seed, size in enumerate(((0, 0, 1), (1, 0, 2), (2, 3, 2), (3, 3, 3), (5, 5, 3), (4, 2, 4), (7, 7, 4))):
            for most in (2, BIG):
                self.asks(drawn_battle(f"desk {seed} {most}", *size, most))

    def test_deeds_are_the_functions(self):
        for seed, size in enumerate(((0, 3, 1), (3, 2, 3), (10, 10, 5))):
            battle = drawn_battle(f"deeds {seed}", *size, BIG)
            desk = desk_of(*told_rows("b", battle))
            self.says(desk, "swap b", "ok", "show b", battle_text(exchanged(battle))[:-1].replace("\n", ", "))
            self.says(desk, "back b", "ok", f"times b {BIG}", "ok")
            self.says(desk, "show b", battle_text(scaled(battle, BIG))[:-1].replace("\n", ", "))

    def test_numbers_of_two_thousand_figures(self):
        row = f"field a lead {GREATEST} -{GREATEST}"
        desk = desk_of("battle a 1 0", row, f"field a table {-GREATEST} 1")
        self.says(desk, "show a", f"hosts 1 0, lead {GREATEST} -{GREATEST}, table {-GREATEST} 1")
        self.refuses("NoNumber", desk, f"field a lead {GREATEST + 1} 1", f"field a table {-GREATEST - 1} 1",
                     f"cut a {GREATEST + 1}", f"times a {GREATEST + 1}")
        self.refuses("NoPlace", desk, f"cut a {GREATEST}")
        self.refuses("NoPlan", desk, f"win a {GREATEST} 0 0 0")

    def test_two_desks_have_nothing_in_common(self):
        one = desk_of(*ROWS)
        other = Desk()
        self.says(other, "names", "")
        self.refuses("NoName", other, "show a")
        self.says(other, "battle a 5 5", "ok", "battle b 1 1", "ok")
        self.says(one, "names", "a", "show a", SHOWN, "drop a", "ok")
        self.says(other, "names", "a b", "show a", "hosts 5 5")

    def test_the_same_asked_is_told_the_same(self):
        battle = drawn_battle(131, 4, 4, 3)
        for row in ("show a", "worth a", "mix a first", "mix a second", "play a first 0", "seen a", "names"):
            desks = [desk_of(*told_rows("a", battle)) for desk in range(2)]
            self.assertEqual(len({desk.say(row) for desk in desks for time in range(2)}), 1, row)


class BackTest(DeskTest):
    def test_back_behind_each_deed(self):
        for deed in ("field a more 1 1", "cut a 1", "hosts a 1 1", "swap a", "times a 7", "times a 1", "hosts a 2 1"):
            desk = desk_of(*ROWS)
            ahead = state(desk)
            self.says(desk, deed, "ok", "back a", "ok", "show a", SHOWN)
            self.assertEqual(state(desk), ahead)

    def test_back_behind_several(self):
        desk = desk_of("battle a 1 1")
        shows = [desk.say("show a")]
        for deed in ("field a more 3 1", "field a table 0 1 2 3", "swap a", "times a 4", "hosts a 2 2", "cut a 0",
                     "field a lead 1 0"):
            self.says(desk, deed, "ok")
            shows.append(desk.say("show a"))
        for show in reversed(shows):
            self.says(desk, "show a", show)
            if show != shows[0]:
                self.says(desk, "back a", "ok")
        self.refuses("NoPlace", desk, "back a")

    def test_deeds_behind_back(self):
        desk = desk_of(*ROWS)
        self.says(desk, "cut a 0", "ok", "back a", "ok", "cut a 2", "ok", "back a", "ok", "back a", "ok",
                  "show a", "hosts 2 1, more 3 -1, lead 5 2", "swap a", "ok", "back a", "ok", "back a", "ok",
                  "show a", "hosts 2 1, more 3 -1", "back a", "ok", "show a", "hosts 2 1")
        self.refuses("NoPlace", desk, "back a")

    def test_battle_and_drop_end_what_may_be_taken_back(self):
        desk = desk_of(*ROWS)
        self.says(desk, "battle a 1 1", "ok")
        self.refuses("NoPlace", desk, "back a")
        self.says(desk, "field a more 1 0", "ok", "back a", "ok", "show a", "hosts 1 1")
        self.refuses("NoPlace", desk, "back a")
        desk = desk_of(*ROWS)
        self.says(desk, "drop a", "ok")
        self.refuses("NoName", desk, "back a", "show a", "drop a")
        self.says(desk, "battle a 1 1", "ok")
        self.refuses("NoPlace", desk, "back a")

    def test_each_name_has_its_own(self):
        desk = desk_of(*ROWS, "battle b 1 1", "field b more 1 0", "cut a 0")
        self.says(desk, "back b", "ok", "show b", "hosts 1 1", "show a", SHOWN.replace(" more 3 -1,", ""),
                  "back a", "ok", "show a", SHOWN)
        self.refuses("NoPlace", desk, "back b")

    def test_questions_and_refusals_are_no_deeds(self):
        desk = desk_of(*ROWS)
        for row in ("worth a", "mix a first", "play a first 0", "win a 2 0 0 1 0 0", "seen a", "show a", "names"):
            desk.say(row)
        for row in ("cut a 3", "times a 0", "hosts a 11 1", "field a less 1 1"):
            with self.assertRaises(HostError):
                desk.say(row)
        self.says(desk, "back a", "ok", "show a", "hosts 2 1, more 3 -1, lead 5 2")


class NoBattleTest(DeskTest):
    ASKED = ("worth a", "mix a first", "mix a third", "win a 1", "win a 2 0 0 1 0 0", "play a first 0",
             "play a third -1", "swap a", "times a 2", "times a 0", "times a -5", "seen a")

    def test_without_fields(self):
        desk = desk_of("battle a 2 1")
        self.refuses_battle(desk, -1, *self.ASKED)
        self.says(desk, "show a", "hosts 2 1", "field a more 1 0", "ok", "worth a", "1/1")

    def test_six_fields(self):
        desk = desk_of("battle a 1 1", *["field a more 1 0"] * 6)
        self.refuses_battle(desk, -1, *self.ASKED)
        self.says(desk, "show a", "hosts 1 1" + ", more 1 0" * 6, "cut a 5", "ok")
        self.refuses("TooGreat", desk, "worth a", "mix a first", "play a second 0", "seen a")
        self.says(desk, "cut a 4", "ok", "worth a", "0/1")

    def test_a_field_that_is_none(self):
        for wrong in ("more 0 0", "more 3 4", "more -1 0", "lead 0 1", "lead -5 0", "table 1 2 3", "table 1",
                      "table 1 2 3 4 5 6 7"):
            desk = desk_of("battle a 2 1", "field a more 1 0", "field a " + wrong)
            self.refuses_battle(desk, 1, *self.ASKED)
            self.says(desk, "show a", "hosts 2 1, more 1 0, " + wrong, "names", "a", "field a more 0 0", "ok")
            self.refuses_battle(desk, 1, *self.ASKED)
            self.says(desk, "cut a 1", "ok")
            self.refuses_battle(desk, 1, *self.ASKED)
            self.says(desk, "back a", "ok", "back a", "ok", "back a", "ok", "worth a", "1/1", "drop a", "ok")

    def test_hosts_and_fields_ahead_of_a_field_that_is_none(self):
        self.refuses_battle(desk_of("battle a 1 1", *["field a more 0 0"] * 6), -1, *self.ASKED)

    def test_a_tables_numbers_stand_by_the_hosts_told_anew(self):
        desk = desk_of("battle a 2 1", "field a table 1 2 3 4 5 6")
        self.says(desk, "win a 2 1", "6", "hosts a 1 2", "ok", "show a", "hosts 1 2, table 1 2 3 4 5 6",
                  "win a 1 2", "6", "hosts a 5 0", "ok", "win a 5 0", "6", "hosts a 0 5", "ok", "win a 0 5", "6")
        self.refuses("NoPlan", desk, "win a 5 0")
        self.says(desk, "hosts a 2 2", "ok", "show a", "hosts 2 2, table 1 2 3 4 5 6")
        self.refuses_battle(desk, 0, *self.ASKED)
        self.says(desk, "hosts a 1 2", "ok", "swap a", "ok", "show a", "hosts 2 1, table -1 -4 -2 -5 -3 -6",
                  "hosts a 1 2", "ok", "win a 1 2", "-6", "field a more 1 0", "ok",
                  # Now by rows of three: row 0 is -1 -4 -2.
                  "win a 0 1 2 0", str(-2 + 1), "win a 0 1 1 1", "-4", "win a 1 0 0 2", str(-5 - 1))

    def test_a_battle_that_is_not_let_by_is_mended(self):
        desk = desk_of("battle a 1 1", "field a table 0 0 0 2", "field a table 0 0 0")
        self.refuses_battle(desk, 1, "worth a")
        self.says(desk, "show a", "hosts 1 1, table 0 0 0 2, table 0 0 0", "cut a 1", "ok",
                  "field a table 0 0 0 1", "ok", "worth a", "2/3")


class RefusalsTest(DeskTest):
    GOOD = ("battle b 1 1", "field a more 1 0", "field a table 1", "cut a 0", "hosts a 1 1", "swap a", "times a 2",
            "back a", "drop a", "names", "show a", "worth a", "mix a first", "win a 2 0 0 1 0 0", "play a first 0",
            "seen a")

    def test_good_rows_are_good(self):
        for row in self.GOOD:
            desk_of(*ROWS).say(row)

    def test_another_first_word(self):
        desk = desk_of(*ROWS)
        self.refuses("NoRow", desk, "", " ", "  ", "Battle b 1 1", "BATTLE b 1 1", "batle b 1 1", "name", "a", "ok",
                     "more a 1 1", "lead a 1 1", "table a 1", "flow a 1", "number a 1", "shows a", "Names", "names\n",
                     "show\na", "worth\ta", "hosts 1 1", "quit", "undo a", "wins a 1 1", "first a", "1 2 3 4")

    def test_another_count_of_words(self):
        desk = desk_of(*ROWS)
        for row in self.GOOD:
            words = row.split(" ")
            if words[0] not in ("field", "win"):
                self.refuses("NoRow", desk, row + " 1", row + " ", " " + row, row + " 1 1", row + "  ")
                if len(words) > 1:
                    self.refuses("NoRow", desk, " ".join(words[:-1]), words[0], row.replace(" ", "  ", 1))

    def test_the_counts_of_field_and_win(self):
        desk = desk_of(*ROWS)
        self.refuses("NoRow", desk, "field", "field a", "field a more", "field a more 1", "field a more 1 2 3",
                     "field a lead 1", "field a lead 1 2 3 4", "field a table", "field  a", "field a  table",
                     "field a less 1", "field a less 1 2 3", "field a Table 1", "field a more ", "win", "win a",
                     "field table 1 1", "field table table")
        self.refuses("NoName", desk, "win  1", "win  a", "field  more 1 0", "field  table 1")
        self.refuses("NoNumber", desk, "field a table ", "field a table 1 ", "field a more 1 ", "win a ", "win a 1 ",
                     "field a table  1")
        self.says(desk, "field a table 1", "ok", "field a table 1 2", "ok", "field a table 1 2 3", "ok")

    def test_names_that_are_none(self):
        desk = desk_of(*ROWS)
        for row in self.GOOD:
            words = row.split(" ")
            for name in NO_NAMES if len(words) > 1 else ():
                self.refuses("NoName", desk, " ".join([words[0], name] + words[2:]))

    def test_names_by_which_nothing_stands(self):
        desk = desk_of(*ROWS)
        for row in self.GOOD:
            words = row.split(" ")
            for name in ("b", "aa", "abcdefgh") if words[0] not in ("battle", "names") else ():
                self.refuses("NoName", desk, " ".join([words[0], name] + words[2:]))

    def test_names_of_one_and_eight_letters(self):
        desk = Desk()
        for name in ("a", "z", "abcdefgh", "stuvwxyz", "battle", "names", "first"):
            self.says(desk, f"battle {name} 1 2", "ok", f"show {name}", "hosts 1 2")

    def test_numbers_that_are_none(self):
        desk = desk_of(*ROWS)
        places = {"battle": (2, 3), "cut": (2,), "hosts": (2, 3), "times": (2,), "win": range(2, 8), "play": (3,)}
        for row in self.GOOD:
            words = row.split(" ")
            for place in (range(3, len(words)) if words[0] == "field" else places.get(words[0], ())):
                for wrong in NO_NUMBERS:
                    self.refuses("NoNumber", desk, " ".join(words[:place] + [wrong] + words[place + 1:]))

    def test_a_fields_first_word_that_is_none(self):
        desk = desk_of(*ROWS)
        for word in ("", "less", "More", "hosts", "tables", "1", "flow", "more\n"):
            self.refuses("NoNumber", desk, f"field a {word} 1 0", f"field a {word} x 0")

    def test_hosts_that_are_none(self):
        desk = desk_of(*ROWS)
        for hosts in ("11 1", "1 11", "-1 1", "1 -1", f"{BIG} 0", f"0 {GREATEST}", f"-{GREATEST} 0"):
            self.refuses_battle(desk, -1, "battle b " + hosts, "battle a " + hosts, "hosts a " + hosts)
        self.says(desk, "hosts a 0 10", "ok", "hosts a 10 0", "ok", "battle b 10 10", "ok", "battle c 0 0", "ok")

    def test_places_that_are_not_there(self):
        desk = desk_of(*ROWS)
        self.refuses("NoPlace", desk, "cut a 3", "cut a -1", "cut a 4", f"cut a {BIG}", f"cut a -{BIG}")
        desk = desk_of("battle a 2 1")
        self.refuses("NoPlace", desk, "cut a 0", "cut a -1", "back a")

    def test_what_the_stages_refuse(self):
        desk = desk_of(*ROWS)
        self.refuses("NoSide", desk, "mix a third", "mix a ", "mix a First", "play a third 0", "play a  0",
                     "mix a first\n")
        self.refuses("NoNumber", desk, "times a 0", "times a -1", f"times a -{BIG}", "play a first -1",
                     f"play a first {BIG}")
        self.refuses("NoPlan", desk, "win a 1", "win a 2 0 0 1 0", "win a 2 0 0 1 0 0 0", "win a 1 0 0 1 0 0",
                     "win a 2 0 0 2 0 0", "win a 3 -1 0 1 0 0", "win a 2 0 0 -1 1 1", "win a 2 0 0", "win a 2 0 1 0",
                     f"win a {BIG} 0 0 1 0 0", " ".join(["win a"] + ["0"] * 300))
        desk = desk_of("battle a 8 7", "field a more 1 0", "battle b 6 1", "field b more 1 0",
                       "battle c 1 1", *["field c more 1 0"] * 5)
        self.refuses("TooGreat", desk, "worth a", "mix a first", "play a second 0", "play a second -1", "seen a",
                     "seen b", "worth c", "mix c second", "seen c")
        self.says(desk, "worth b", "1/1", "win a 8 7", "1")

    def test_two_at_once_in_their_order(self):
        desk = desk_of(*ROWS, "battle g 8 8", "field g more 1 0", "battle n 1 1", "battle h 1 1", "field h more 0 0")
        # No row ahead of no name.
        self.refuses("NoRow", desk, "show A b", "worth", "cut Z", "field A more x", "win A", "battle A 1", "swap b 1")
        # No name ahead of no number, no hosts, no place and all that is behind.
        self.refuses("NoName", desk, "battle A x 1", "battle A 11 1", "cut b x", "cut b 9", "hosts b x 1",
                     "hosts b 11 1", "times b x", "times b 0", "field b less x 1", "win b x", "play b third x",
                     "mix b third", "back b", "field B more 1 x")
        # No number ahead of no hosts, no place, no battle, no side, too great and no plan.
        self.refuses("NoNumber", desk, "battle a 11 x", "battle a x 11", "hosts a 11 x", "hosts n x 11",
                     "cut n x", "times n x", "times h 1.0", "win n x", "win h 1 x", "play n third x", "play h third x",
                     "play a third x", "play g first x", "play g third x", "field n less 1 1", "win a 1 x")
        # No hosts ahead of nothing else that a row could have; then no place.
        self.refuses_battle(desk, -1, "hosts n 11 1", "hosts h 11 1")
        self.refuses("NoPlace", desk, "cut n 0", "cut h 1", "cut g 1", "back n")
        # No battle ahead of no side, no number of times and no plan.
        self.refuses_battle(desk, -1, "mix n third", "times n 0", "win n 1", "play n third -1", "seen n", "swap n")
        self.refuses_battle(desk, 0, "mix h third", "times h 0", "win h 1", "play h third -1", "seen h", "swap h")
        # No side ahead of too great and of a number that none plays by; too great ahead of that number.
        self.refuses("NoSide", desk, "mix g third", "play g third -1", "play a third -1", "play a third 999999")
        self.refuses("TooGreat", desk, "play g first -1", f"play g second {BIG}", "worth g", "seen g")

    def test_a_greater_battle_that_is_none(self):
        desk = desk_of("battle a 8 8", *["field a more 1 0"] * 6)
        self.refuses_battle(desk, -1, "worth a", "mix a third", "play a third -1", "seen a")
        desk = desk_of("battle a 8 8", *["field a more 1 0"] * 4, "field a more 0 0")
        self.refuses_battle(desk, 4, "worth a", "mix a third", "play a third -1", "seen a")

    def test_drawn_rows(self):
        # Whatever is said, an answer is a text or a refusal, and what is refused changes nothing.
        draw = random.Random(132)
        forms = ("battle NAME K K", "field NAME WORD K K", "field NAME table K K K K", "field NAME table K K",
                 "cut NAME K", "hosts NAME K K", "swap NAME", "times NAME K", "back NAME", "drop NAME", "names",
                 "show NAME", "worth NAME", "mix NAME SIDE", "win NAME K K", "win NAME K K K K", "play NAME SIDE K",
                 "seen NAME")
        words = {"NAME": ("a", "a", "a", "b", "", "A"), "K": ("0", "1", "1", "2", "3", "-1", "x"),
                 "WORD": ("more", "lead", "table", "less"), "SIDE": ("first", "second", "third")}
        desk = Desk()
        answered = 0
        for trial in range(6000):
            row = " ".join(draw.choice(words.get(word, (word,))) for word in draw.choice(forms).split(" "))
            ahead = state(desk)
            try:
                self.assertIsInstance(desk.say(row), str)
                answered += 1
            except HostError:
                self.assertEqual(state(desk), ahead, row)
            if len(repr(ahead)) > 3000:
                desk = Desk()
        self.assertTrue(500 < answered < 5000, answered)

    def test_what_stands_is_the_battle_of_its_rows(self):
        draw = random.Random(133)
        desk = desk_of(*ROWS)
        deeds = ("field a more 2 1", "field a lead 3 0", "field a table 5", "field a table 1 2 3 4", "cut a 0",
                 "cut a 1", "hosts a 1 1", "hosts a 0 0", "hosts a 2 1", "swap a", "times a 2", "back a")
        for trial in range(400):
            try:
                desk.say(draw.choice(deeds))
            except HostError:
                pass
            text = desk.say("show a").replace(", ", "\n") + "\n"
            try:
                battle = read_battle(text)
            except HostError:
                self.refused("NoBattle", desk.say, "worth a")
                continue
            plans = [battle[0]] + [0] * (len(battle[2]) - 1), [0] * (len(battle[2]) - 1) + [battle[1]]
            numbers = " ".join(str(number) for plan in plans for number in plan)
            self.says(desk, "win a " + numbers, str(gain(battle, *plans)))


if __name__ == "__main__":
    unittest.main()
