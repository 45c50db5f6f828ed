"""Battles, papers and streams that are changed: sides exchanged, numbers scaled, a host more."""

from hostfields.errors import NoNumber, NoPlan
from hostfields.fields import look_battle
from hostfields.mixes import look_stream
from hostfields.wholes import is_between, is_from


def exchanged(battle):
    look_battle(battle)
    return (battle[1], battle[0], [field_exchanged(field) for field in battle[2]])


def field_exchanged(field):
    if field[0] == "more":
        return ("more", field[1], -field[2])
    if field[0] == "lead":
        return ("lead", field[1], 1 - field[2])
    rows = field[1]
    return ("table", [column_below_nought(rows, y) for y in range(len(rows[0]))])


def column_below_nought(rows, y):
    return [-row[y] for row in rows]


def scaled(battle, many):
    look_battle(battle)
    look_many(many)
    return (battle[0], battle[1], [field_scaled(field, many) for field in battle[2]])


def look_many(many):
    if not is_from(many, 1):
        raise NoNumber("a number of times is from 1 on")


def field_scaled(field, many):
    if field[0] == "more":
        return ("more", field[1] * many, field[2] * many)
    if field[0] == "lead":
        return ("lead", field[1] * many, field[2])
    return ("table", table_times(field[1], many))


def table_times(rows, many):
    return [row_times(row, many) for row in rows]


def row_times(row, many):
    return [number * many for number in row]


def paper_exchanged(paper):
    return paper_times(paper, -1)


def paper_scaled(paper, many):
    look_many(many)
    return paper_times(paper, many)


def paper_times(paper, many):
    return ([list(row) for row in paper[0]], table_times(paper[1], many))


def host_more(stream, field):
    look_stream(stream)
    if not is_between(field, 0, len(stream) - 1):
        raise NoPlan("no field has this number")
    ahead = [row_more(row, 0) for row in stream[:field]]
    behind = [list(row) for row in stream[field + 1:]]
    return ahead + [row_more(stream[field], 1)] + behind


def row_more(row, sent_more):
    return [(left + 1, sent + sent_more, flow) for left, sent, flow in row]
