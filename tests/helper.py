"""What several test files need: how answers and refusals are held to the document, and things drawn to ask about."""

import itertools
import random
import signal
import time
import unittest
from fractions import Fraction

from hostfields import errors
from hostfields.fields import gain, pay
from hostfields.mixes import stream_of

REFUSALS = ("NoBattle", "NoPlan", "NoMix", "NoStream", "NoSide", "NoAlike", "NoNumber", "TooGreat", "NoEven",
            "NoText", "NoRow", "NoName", "NoPlace")

BIG = 10 ** 30 - 1

SECONDS = 60
FEW_SECONDS = 5

NO_NUMBERS = (None, True, False, "", "1", "flow", (), [], (1,), [1], [[]], ((),))

SIDES = ("first", "second")


def late(number, frame):
    raise AssertionError("not told soon")


def lists_in(thing):
    """Each list within a thing, once for each place at which it stands."""
    told = [thing] if isinstance(thing, list) else []
    if isinstance(thing, (list, tuple)):
        for part in thing:
            told += lists_in(part)
    return told


def bent_at_each_place(thing):
    """Of a thing of lists, tuples and numbers those in which one place holds something of another kind."""
    if isinstance(thing, int):
        # A truth that is equal to the number is the easiest one to be taken for it.
        yield from list(NO_NUMBERS) + [bool(thing), (thing,), [thing], str(thing)]
        return
    turned = tuple(thing) if isinstance(thing, list) else list(thing)
    yield from (None, True, False, 0, 1, "", "stream", turned)
    for place in range(len(thing)):
        for wrong in bent_at_each_place(thing[place]):
            yield thing[:place] + type(thing)([wrong]) + thing[place + 1:]


def pair(fraction):
    return (fraction.numerator, fraction.denominator)


def all_plans(hosts, fields):
    """In the order of lists, as product goes; written down from the document, not from the program."""
    return [list(plan) for plan in itertools.product(range(hosts + 1), repeat=fields) if sum(plan) == hosts]


def all_counts(hosts, fields):
    return [plan for plan in all_plans(hosts, fields) if plan == sorted(plan, reverse=True)]


def drawn_plan(draw, hosts, fields):
    cuts = sorted(draw.choice((0, hosts, draw.randint(0, hosts))) for cut in range(fields - 1))
    return [end - start for start, end in zip([0] + cuts, cuts + [hosts])]


def drawn_mix(draw, hosts, fields, many):
    mix = []
    for part in range(many):
        plan = drawn_plan(draw, hosts, fields)
        if mix and draw.random() < 0.3:
            plan = list(draw.choice(mix)[0])
        mix.append((plan, draw.choice((1, draw.randint(1, 9), draw.randint(10 ** 29, BIG)))))
    return mix


def drawn_field(draw, first, second, most=9):
    word = draw.choice(("more", "lead", "table"))
    worth = draw.randint(1, most)
    if word == "more":
        return (word, worth, draw.randint(-worth, worth))
    if word == "lead":
        return (word, worth, draw.randint(-2, 3))
    return (word, [[draw.randint(-most, most) for y in range(second + 1)] for x in range(first + 1)])


def table(first, second, number):
    return ("table", [[number(x, y) for y in range(second + 1)] for x in range(first + 1)])


def rising_table(draw, first, second, most):
    """Drawn steps that never fall with x and never rise with y."""
    ups = [draw.randint(0, most) for x in range(first + 1)]
    downs = [draw.randint(0, most) for y in range(second + 1)]
    return table(first, second, lambda x, y: sum(ups[:x]) - sum(downs[:y]) + max(ups) * min(x, second - y))


def even_table(draw, hosts, most):
    numbers = [[draw.randint(-most, most) for y in range(hosts + 1)] for x in range(hosts + 1)]
    return table(hosts, hosts, lambda x, y: numbers[x][y] - numbers[y][x])


def drawn_battle(seed, first, second, fields, most=9):
    draw = random.Random(seed)
    return (first, second, [drawn_field(draw, first, second, most) for field in range(fields)])


def best_table(battle, side, stream):
    """The table whose numbers are all as great (for the second side as small) as point 11 lets them be."""
    others = battle[1] if side == "first" else battle[0]
    best = min if side == "first" else max
    table = [[0] + [None] * others]
    for field in reversed(range(len(battle[2]))):
        here = [due(battle, field, side, stream, sent) for sent in range(others + 1)]
        row = []
        for count in range(others + 1):
            ways = [sent for sent in range(count + 1) if table[0][count - sent] is not None]
            row.append(best(here[sent] + table[0][count - sent] for sent in ways))
        table.insert(0, row)
    return table[:-1]


def due(battle, field, side, stream, others):
    if side == "first":
        return sum(flow * pay(battle, field, sent, others) for left, sent, flow in stream[field])
    return sum(flow * pay(battle, field, others, sent) for left, sent, flow in stream[field])


def average(battle, side, mix, plan):
    """What the first side wins on average where this side draws its mix and the other one has the plan."""
    whole = sum(weight for own, weight in mix)
    if side == "first":
        return Fraction(sum(weight * gain(battle, own, plan) for own, weight in mix), whole)
    return Fraction(sum(weight * gain(battle, plan, own) for own, weight in mix), whole)


def shown_by_all_plans(battle, side, mix):
    plans = all_plans(battle[1] if side == "first" else battle[0], len(battle[2]))
    averages = [average(battle, side, mix, plan) for plan in plans]
    return min(averages) if side == "first" else max(averages)


def papers():
    """Drawn battles with a mix of a side, its stream, the tightest table, and what it shows, by all plans."""
    draw = random.Random(11)
    for seed, size in enumerate(((0, 0, 1), (0, 2, 2), (2, 0, 2), (1, 1, 1), (2, 3, 1), (3, 2, 2), (2, 3, 3), (3, 3, 3),
                                 (1, 4, 4), (4, 2, 4), (2, 2, 5), (5, 5, 2))):
        for most in (3, BIG):
            battle = drawn_battle(f"{seed} {most}", *size, most)
            for side in SIDES:
                mix = drawn_mix(draw, battle[0] if side == "first" else battle[1], len(battle[2]), draw.randint(1, 4))
                stream = stream_of(mix)
                yield battle, side, mix, (stream, best_table(battle, side, stream))


class HostTest(unittest.TestCase):
    def setUp(self):
        # A test that goes through all plans, or never ends, is to fail and not to hang.
        elder = signal.signal(signal.SIGALRM, late)
        self.addCleanup(signal.signal, signal.SIGALRM, elder)
        signal.alarm(SECONDS)
        self.addCleanup(signal.alarm, 0)

    def refused(self, name, call, *handed):
        """Call, see that it is refused by this class and no other, with nothing changed; tell the error."""
        ahead = repr(handed)
        with self.assertRaises(ValueError, msg=ahead) as caught:
            call(*handed)
        error = caught.exception
        self.assertEqual(ahead, repr(handed))
        self.assertIsInstance(error, errors.HostError, ahead)
        for other in REFUSALS:
            self.assertEqual(isinstance(error, getattr(errors, other)), other == name, (other, ahead))
        return error

    def told(self, call, *handed):
        """Call twice, see that nothing handed in is changed, that both answers are the same though the first one is
        spoilt in between, and that each list told is a new one that stands at one place alone; tell the answer."""
        ahead = repr(handed)
        spoilt = call(*handed)
        self.assertEqual(ahead, repr(handed))
        shown = repr(spoilt)
        first_lists = lists_in(spoilt)
        for part in first_lists:
            part.append("spoilt")
        self.assertEqual(ahead, repr(handed), "a list that is told was handed in")
        answer = call(*handed)
        self.assertEqual(ahead, repr(handed))
        self.assertEqual(shown, repr(answer), ahead)
        places = first_lists + lists_in(answer)
        self.assertEqual(len({id(part) for part in places}), len(places), ahead)
        return answer

    def told_soon(self, call, *handed):
        start = time.monotonic()
        answer = call(*handed)
        self.assertLess(time.monotonic() - start, FEW_SECONDS, handed)
        return answer

    def keeps_to(self, worth, rows, columns, table):
        """See that each side's weights keep a table's numbers to the worth, whatever the other one picks."""
        self.assertEqual([len(rows), len(columns)], [len(table), len(table[0])])
        self.assertTrue(min(rows) >= 0 < sum(rows) and min(columns) >= 0 < sum(columns))
        for column in range(len(columns)):
            self.assertGreaterEqual(sum(weight * row[column] for weight, row in zip(rows, table)), worth * sum(rows))
        for row in table:
            self.assertLessEqual(sum(weight * number for weight, number in zip(columns, row)), worth * sum(columns))

    def tells(self, answer, call, *handed):
        """As told, and see that the answer is this one, of this kind."""
        # repr parts 1 from True and a list from a tuple, == does not part the first.
        self.assertEqual(repr(answer), repr(self.told(call, *handed)), handed)
