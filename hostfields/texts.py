"""Battles and papers as texts, and read from them again.

A row is a tuple of its first word and its numbers; in a text its words are parted by one blank, and a line end stands
behind it.
"""

from hostfields.errors import NoBattle, NoText
from hostfields.fields import look_battle
from hostfields.tables import flat

FIGURES = "0123456789"
MOST_FIGURES = 2000
FIELD_WORDS = ("more", "lead", "table")
# How many numbers stand behind a row's first word; behind "table" stand one or more.
WANTED = {"hosts": 2, "more": 2, "lead": 2, "flow": 4, "number": 3}


def battle_text(battle):
    look_battle(battle)
    return text_of(battle_rows(battle))


def paper_text(paper):
    return text_of(flow_rows(paper[0]) + number_rows(paper[1]))


def text_of(rows):
    return "".join([row_text(row) + "\n" for row in rows])


def row_text(row):
    return " ".join([str(word) for word in row])


def battle_rows(battle):
    return [("hosts", battle[0], battle[1])] + [field_row(field) for field in battle[2]]


def field_row(field):
    return tuple(["table"] + flat(field[1])) if field[0] == "table" else field


def flow_rows(stream):
    rows = []
    for field, flows in enumerate(stream):
        rows.extend([("flow", field, left, sent, flow) for left, sent, flow in flows])
    return rows


def number_rows(table):
    rows = []
    for field, numbers in enumerate(table):
        rows.extend([("number", field, count, number) for count, number in enumerate(numbers)])
    return rows


def read_battle(text):
    rows = read_rows(text, stands_in_battle)
    if len(rows) == 0:
        raise NoText(0)
    battle = battle_of(rows)
    try:
        look_battle(battle)
    except NoBattle:
        raise NoText(len(rows)) from None
    return battle


# Looks at nothing: where the rows are of their form but no battle's, what is told is no battle either.
def battle_of(rows):
    first = rows[0][1]
    second = rows[0][2]
    return (first, second, [field_of(first, second, row) for row in rows[1:]])


def field_of(first, second, row):
    if row[0] != "table":
        return row
    # Numbers that can't be parted into rows make no table, and what has no list is no field.
    return ("table", rows_parted(first + 1, second + 1, list(row[1:])))


def rows_parted(many_rows, many_numbers, numbers):
    if len(numbers) != many_rows * many_numbers:
        return None
    return [numbers[row * many_numbers:(row + 1) * many_numbers] for row in range(many_rows)]


def read_paper(text):
    rows = read_rows(text, stands_in_paper)
    flows = [(row[1], (row[2], row[3], row[4])) for row in rows if row[0] == "flow"]
    numbers = [(row[1], row[3]) for row in rows if row[0] == "number"]
    if len(flows) == 0 or len(numbers) == 0:
        raise NoText(len(rows))
    return (by_fields(flows), by_fields(numbers))


def by_fields(pairs):
    lists = []
    for field, thing in pairs:
        if field == len(lists):
            lists.append([])
        lists[field].append(thing)
    return lists


def read_rows(text, stands):
    pieces = text.split("\n")
    rows = []
    ahead = None
    for number, piece in enumerate(pieces[:-1]):
        row = read_row(piece)
        if row is None or not stands(ahead, row):
            raise NoText(number)
        rows.append(row)
        ahead = row
    # What stands behind the last line end is a row that lacks its own.
    if pieces[-1] != "":
        raise NoText(len(rows))
    return rows


def read_row(piece):
    words = piece.split(" ")
    if not has_wanted(words[0], len(words) - 1) or not all([is_number(word) for word in words[1:]]):
        return None
    return tuple([words[0]] + [int(word) for word in words[1:]])


def has_wanted(word, many):
    return many >= 1 if word == "table" else WANTED.get(word) == many


def is_number(word):
    figures = word[1:] if word.startswith("-") else word
    if not 1 <= len(figures) <= MOST_FIGURES or not all([sign in FIGURES for sign in figures]):
        return False
    return figures[0] != "0" or word == "0"


def stands_in_battle(ahead, row):
    return row[0] == "hosts" if ahead is None else row[0] in FIELD_WORDS


def stands_in_paper(ahead, row):
    if row[0] == "flow":
        return flow_stands(ahead, row)
    return row[0] == "number" and number_stands(ahead, row)


def flow_stands(ahead, row):
    if ahead is None:
        return row[1] == 0
    return ahead[0] == "flow" and row[1] - ahead[1] in (0, 1)


def number_stands(ahead, row):
    place = (row[1], row[2])
    if ahead is None or ahead[0] == "flow":
        return place == (0, 0)
    return place in ((ahead[1], ahead[2] + 1), (ahead[1] + 1, 0))
