"""What the document promises over the whole program: held for each function of the interface."""

import copy
import importlib
import inspect
import itertools
import unittest
from fractions import Fraction

from hostfields.counts import counts_worth, ring_gain, ring_mix
from hostfields.desk import Desk
from hostfields.even import even_papers
from hostfields.fields import gain, pay
from hostfields.finder import battle_worth
from hostfields.judge import judged
from hostfields.least import answer_table, shown
from hostfields.mixes import shares_of, stream_of, taken_apart
from hostfields.plans import plan_number, plan_of
from hostfields.plays import mixed_gain
from hostfields.seen import seen_paper
from hostfields.texts import battle_text, paper_text
from helper import HostTest, drawn_battle, lists_in

# The same lists stand at several places of what is handed in: what is told may not have them so.
ROW = [1, -2, 3]
TABLE = [ROW, ROW, [0, 4, -1]]
BATTLE = (2, 2, [("table", TABLE), ("table", TABLE), ("more", 3, 0)])
ALIKE = (2, 2, [("table", TABLE)] * 3)
EVEN_ROWS = [[0, 1, -2], [-1, 0, 5], [2, -5, 0]]
EVEN = (2, 2, [("table", EVEN_ROWS), ("more", 3, 0), ("table", EVEN_ROWS)])
PLAN = [1, 0, 1]
OTHER_PLAN = [0, 2, 0]
COUNTS = [1, 1, 0]
MIX = [(PLAN, 2), (OTHER_PLAN, 1), (PLAN, 4)]
COUNTS_MIX = [(COUNTS, 2), ([2, 0, 0], 1), (COUNTS, 4)]
STREAM = stream_of(MIX)
PAPER = (STREAM, answer_table(BATTLE, "first", STREAM))
STILL = [(0, 0, 7)]
STILL_STREAM = [STILL, STILL, STILL]
STILL_PAPER = (STILL_STREAM, [ROW, ROW, ROW])

CALLS = {
    "ratios": {"ratio": (6, -4), "plus": ((1, 2), (1, 3)), "minus": ((1, 2), (1, 3)), "times": ((1, 2), (1, 3)),
               "below": ((1, 2), (1, 3))},
    "fields": {"look_battle": (BATTLE,), "pay": (BATTLE, 0, 1, 2), "gain": (BATTLE, PLAN, PLAN), "rises": (BATTLE,)},
    "plans": {"plans_many": (5, 3), "plan_number": (PLAN,), "plan_of": (5, 3, 4), "counts_many": (5, 3),
              "counts_number": (COUNTS,), "counts_of": (5, 3, 2)},
    "mixes": {"stream_of": (MIX,), "is_stream": (2, 3, STREAM), "taken_apart": (STREAM,), "shares_of": (STREAM,)},
    "judge": {"judged": (BATTLE, "first", (0, 1), PAPER)},
    "counts": {"is_alike": (ALIKE,), "ring_of": (PLAN,), "ring_gain": (ALIKE, PLAN, PLAN), "counts_table": (ALIKE,),
               "ring_mix": (COUNTS_MIX,), "counts_worth": (ALIKE,)},
    "least": {"answer_table": (BATTLE, "first", STREAM), "shown": (BATTLE, "second", STREAM),
              "best_answer": (BATTLE, "second", STREAM)},
    "finder": {"battle_worth": (BATTLE,)},
    "even": {"is_even": (EVEN,), "even_papers": (EVEN,)},
    "changes": {"exchanged": (BATTLE,), "scaled": (BATTLE, 3), "paper_exchanged": (STILL_PAPER,),
                "paper_scaled": (STILL_PAPER, 3), "host_more": (STILL_STREAM, 1)},
    "plays": {"whole_of": (MIX,), "played": (MIX, 2), "mixed_gain": (BATTLE, MIX, MIX)},
    "texts": {"battle_text": (BATTLE,), "paper_text": (STILL_PAPER,), "read_battle": (battle_text(BATTLE),),
              "read_paper": (paper_text(PAPER),)},
    "seen": {"seen_paper": (BATTLE,), "seen_judged": (BATTLE, seen_paper(BATTLE)), "seen_worth": (BATTLE,)},
}

GET_BATTLES = ("look_battle", "pay", "gain", "rises", "judged", "is_alike", "ring_gain", "counts_table", "counts_worth",
               "answer_table", "shown", "best_answer", "battle_worth", "is_even", "even_papers", "exchanged", "scaled",
               "mixed_gain", "battle_text", "seen_paper", "seen_judged", "seen_worth")


def functions():
    for module, calls in CALLS.items():
        for name, handed in calls.items():
            yield name, getattr(importlib.import_module("hostfields." + module), name), handed


def spoil(thing):
    """Change each list within what was handed in."""
    for part in lists_in(thing):
        part.append("spoilt")


class InterfaceTest(HostTest):
    def test_all_is_there_with_its_arguments(self):
        for name, call, handed in functions():
            self.assertTrue(inspect.isfunction(call), name)
            self.assertEqual(len(inspect.signature(call).parameters), len(handed), name)
        self.assertEqual(list(inspect.signature(Desk).parameters), [])
        self.assertEqual(len(inspect.signature(Desk().say).parameters), 1)

    def test_nothing_handed_in_is_changed_and_each_list_told_is_a_new_one(self):
        for name, call, handed in functions():
            with self.subTest(name):
                self.told(call, *handed)

    def test_what_was_told_stays_when_what_was_handed_in_is_changed(self):
        for name, call, handed in functions():
            with self.subTest(name):
                own = copy.deepcopy(handed)
                told = call(*own)
                kept = repr(told)
                spoil(own)
                self.assertEqual(repr(told), kept)
                self.assertEqual(repr(call(*handed)), kept)

    def test_what_was_told_stays_when_something_else_is_asked(self):
        told = {name: call(*handed) for name, call, handed in functions()}
        kept = {name: repr(answer) for name, answer in told.items()}
        for name, call, handed in functions():
            spoil(call(*copy.deepcopy(handed)))
            self.assertEqual({other: repr(answer) for other, answer in told.items()}, kept, name)

    def test_no_battle_goes_ahead_of_all_else(self):
        wrong = [((2, 11, BATTLE[2]), -1), ((True, 2, BATTLE[2]), -1), ((2, 2, []), -1), ((2, 2, BATTLE[2] * 2), -1),
                 ((2, 2, BATTLE[2] + [("more", 1, True)]), 3), ((10, 10, [("more", 1, 2)]), 0), ((3, 3, ALIKE[2]), 0),
                 ((2, 2, [("more", 1, 0), ("table", TABLE[:2])]), 1)]
        for name, call, handed in functions():
            for battle, field in wrong if name in GET_BATTLES else ():
                with self.subTest(name):
                    self.assertEqual(self.refused("NoBattle", call, battle, *handed[1:]).field, field)
                    rest = ["third" if isinstance(thing, str) else 0 if isinstance(thing, int) else []
                            for thing in handed[1:]]
                    self.assertEqual(self.refused("NoBattle", call, battle, *rest).field, field)


class PromiseTest(HostTest):
    """Point 3, over all stages."""

    def test_papers_of_both_sides_show_the_worth_and_no_others_another_one(self):
        for seed in range(6):
            battle = drawn_battle(f"whole {seed}", 3, 3, 3, 4)
            worth, one, other = battle_worth(battle)
            for strange in range(8):
                strange_battle = drawn_battle(f"strange {strange}", 3, 3, 3, 4)
                stream = battle_worth(strange_battle)[1][0]
                for side in ("first", "second"):
                    told = shown(battle, side, stream)
                    self.assertIsNone(judged(battle, side, told, (stream, answer_table(battle, side, stream))))
                    if side == "first":
                        self.assertLessEqual(Fraction(*told), Fraction(*worth))
                    else:
                        self.assertGreaterEqual(Fraction(*told), Fraction(*worth))

    def test_streams_are_mixes_and_mixes_streams(self):
        for battle in (BATTLE, ALIKE, EVEN):
            worth, one, other = battle_worth(battle)
            for paper in (one, other):
                mix = taken_apart(paper[0])
                self.assertEqual(stream_of(mix), paper[0])
                self.assertEqual(shares_of(stream_of(mix)), shares_of(paper[0]))
            self.assertEqual(mixed_gain(battle, taken_apart(one[0]), taken_apart(other[0])), worth)

    def test_plans_by_numbers(self):
        for number in range(21):
            self.assertEqual(plan_number(plan_of(5, 3, number)), number)

    def test_where_all_fields_are_alike(self):
        self.assertEqual(counts_worth(ALIKE)[0], battle_worth(ALIKE)[0])
        for one, other in itertools.product(([2, 0, 0], [1, 1, 0]), repeat=2):
            orders = itertools.product(itertools.permutations(one), itertools.permutations(other))
            won = [gain(ALIKE, list(left), list(right)) for left, right in orders]
            self.assertEqual(Fraction(*ring_gain(ALIKE, one, other)), Fraction(sum(won), len(won)))
            mixes = [ring_mix([(plan, 1)]) for plan in (one, other)]
            self.assertEqual(mixed_gain(ALIKE, *mixes), ring_gain(ALIKE, one, other))

    def test_even_papers_are_worth_nought(self):
        one, other = even_papers(EVEN)
        self.assertIsNone(judged(EVEN, "first", battle_worth(EVEN)[0], one))
        self.assertIsNone(judged(EVEN, "second", battle_worth(EVEN)[0], other))
        self.assertEqual([pay(EVEN, field, 2, 2) for field in range(3)], [0, 0, 0])


if __name__ == "__main__":
    unittest.main()
