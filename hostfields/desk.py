"""A desk: battles by names, told and asked about in rows of words."""

from hostfields.changes import exchanged, scaled
from hostfields.errors import NoBattle, NoName, NoNumber, NoPlace, NoRow
from hostfields.fields import are_hosts, gain, look_battle
from hostfields.finder import battle_worth
from hostfields.mixes import taken_apart
from hostfields.plays import played
from hostfields.seen import seen_worth
from hostfields.tables import look_side
from hostfields.texts import FIELD_WORDS, battle_of, battle_rows, is_number, row_text
from hostfields.wholes import is_between

LETTERS = "abcdefghijklmnopqrstuvwxyz"
MOST_LETTERS = 8
# How many words a row has by its first one; "field" and "win" have no one count.
COUNTS = {"battle": 4, "cut": 3, "hosts": 4, "swap": 2, "times": 3, "back": 2, "drop": 2, "names": 1, "show": 2,
          "worth": 2, "mix": 3, "play": 4, "seen": 2}
# At which word the numbers begin.
NUMBERS_FROM = {"battle": 2, "field": 3, "cut": 2, "hosts": 2, "times": 2, "win": 2, "play": 3}
DEEDS = ("field", "cut", "hosts", "swap", "times")


class Desk:
    def __init__(self):
        # By each name a list of what stood there, each time all its rows (as in texts), the last ones last: those
        # ahead of them are for taking back.
        self.stands = {}

    def say(self, row):
        words = row.split(" ")
        look_count(words)
        if words[0] == "names":
            return " ".join(sorted(self.stands))
        self.look_name(words)
        numbers = read_numbers(words)
        if words[0] in DEEDS:
            stood = self.stands[words[1]]
            stood.append(behind_deed(stood[-1], words, numbers))
            return "ok"
        if words[0] in ("battle", "drop", "back"):
            self.change(words[0], words[1], numbers)
            return "ok"
        return answer(self.stands[words[1]][-1], words, numbers)

    def look_name(self, words):
        name = words[1]
        if not is_name(name) or (words[0] != "battle" and name not in self.stands):
            raise NoName("nothing stands by this name")

    def change(self, word, name, numbers):
        if word == "battle":
            self.stands[name] = [(hosts_row(numbers),)]
        elif word == "drop":
            self.stands.pop(name)
        elif len(self.stands[name]) == 1:
            raise NoPlace("no deed is there to be taken back")
        else:
            self.stands[name].pop()


def look_count(words):
    if not has_count(words):
        raise NoRow("no row has this first word and so many words")


def has_count(words):
    if words[0] == "field":
        return len(words) == 5 or (len(words) >= 4 and words[2] == "table")
    if words[0] == "win":
        return len(words) >= 3
    return COUNTS.get(words[0]) == len(words)


def is_name(word):
    return 1 <= len(word) <= MOST_LETTERS and all([sign in LETTERS for sign in word])


def read_numbers(words):
    if words[0] == "field" and words[2] not in FIELD_WORDS:
        raise NoNumber("no field begins with this word")
    told = words[NUMBERS_FROM.get(words[0], len(words)):]
    if not all([is_number(word) for word in told]):
        raise NoNumber("a word is no number")
    return [int(word) for word in told]


def hosts_row(numbers):
    if not are_hosts(numbers[0], numbers[1]):
        raise NoBattle(-1)
    return ("hosts", numbers[0], numbers[1])


def behind_deed(rows, words, numbers):
    if words[0] == "field":
        return rows + (tuple([words[2]] + numbers),)
    if words[0] == "cut":
        return without_field(rows, numbers[0])
    if words[0] == "hosts":
        return (hosts_row(numbers),) + rows[1:]
    battle = battle_of(rows)
    changed = exchanged(battle) if words[0] == "swap" else scaled(battle, numbers[0])
    return tuple(battle_rows(changed))


def without_field(rows, field):
    # Ahead of the fields' rows stands that of the hosts.
    if not is_between(field, 0, len(rows) - 2):
        raise NoPlace("no field to be cut is there")
    return rows[:field + 1] + rows[field + 2:]


def answer(rows, words, numbers):
    if words[0] == "show":
        return ", ".join([row_text(row) for row in rows])
    battle = battle_of(rows)
    if words[0] == "worth":
        return ratio_text(battle_worth(battle)[0])
    if words[0] == "seen":
        return ratio_text(seen_worth(battle))
    if words[0] == "win":
        # Of another count of numbers one of the two is no plan.
        fields = len(battle[2])
        return str(gain(battle, numbers[:fields], numbers[fields:]))
    mix = mix_found(battle, words[2])
    if words[0] == "mix":
        return ", ".join([part_text(plan, weight) for plan, weight in mix])
    return row_text(played(mix, numbers[0]))


def mix_found(battle, side):
    look_battle(battle)
    look_side(side)
    told = battle_worth(battle)
    paper = told[1] if side == "first" else told[2]
    return taken_apart(paper[0])


def ratio_text(fraction):
    top = fraction[0]
    bottom = fraction[1]
    return f"{top}/{bottom}"


def part_text(plan, weight):
    numbers = row_text(plan)
    return f"{weight}: {numbers}"
