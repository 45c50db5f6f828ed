"""Battles and their fields: what is one, and what the first side wins."""

from hostfields.errors import NoBattle, NoPlan, TooGreat
from hostfields.plans import is_plan
from hostfields.wholes import is_between, is_from, is_whole

MOST_HOSTS = 10
MOST_FIELDS = 5


def look_battle(battle):
    if not has_size(battle):
        raise NoBattle(-1)
    for number, field in enumerate(battle[2]):
        if not is_field(battle[0], battle[1], field):
            raise NoBattle(number)


def has_size(battle):
    return are_hosts(battle[0], battle[1]) and 1 <= len(battle[2]) <= MOST_FIELDS


def are_hosts(first, second):
    return is_between(first, 0, MOST_HOSTS) and is_between(second, 0, MOST_HOSTS)


def look_within(battle, most_hosts, most_fields):
    if max(battle[0], battle[1]) > most_hosts or len(battle[2]) > most_fields:
        raise TooGreat("a battle of fewer hosts and fields is asked for")


def is_field(first, second, field):
    if not isinstance(field, tuple):
        return False
    if len(field) == 3 and field[0] == "more":
        return is_from(field[1], 1) and is_between(field[2], -field[1], field[1])
    if len(field) == 3 and field[0] == "lead":
        return is_from(field[1], 1) and is_whole(field[2])
    if len(field) == 2 and field[0] == "table":
        return is_table(first + 1, second + 1, field[1])
    return False


def is_table(many_rows, many_numbers, rows):
    if not isinstance(rows, list) or len(rows) != many_rows:
        return False
    return all([is_table_row(many_numbers, row) for row in rows])


def is_table_row(many_numbers, row):
    return isinstance(row, list) and len(row) == many_numbers and all([is_whole(number) for number in row])


# Looks at nothing: for those who have let the battle and the counts by already.
def won(field, x, y):
    if field[0] == "table":
        return field[1][x][y]
    if field[0] == "lead":
        return field[1] if x - y >= field[2] else -field[1]
    if x == y:
        return field[2]
    return field[1] if x > y else -field[1]


def pay(battle, field, x, y):
    look_battle(battle)
    if not is_between(field, 0, len(battle[2]) - 1):
        raise NoPlan("no field has this number")
    if not is_between(x, 0, battle[0]) or not is_between(y, 0, battle[1]):
        raise NoPlan("a side has no such count of hosts")
    return won(battle[2][field], x, y)


def look_plans(battle, one, other):
    fields = len(battle[2])
    if not is_plan(battle[0], fields, one) or not is_plan(battle[1], fields, other):
        raise NoPlan("no plan of the side's hosts over the fields")


def gain(battle, one, other):
    look_battle(battle)
    look_plans(battle, one, other)
    return won_in_all(battle[2], one, other)


def won_in_all(fields, one, other):
    return sum([won(field, x, y) for field, x, y in zip(fields, one, other)])


def rises(battle):
    look_battle(battle)
    return all([field_rises(battle[0], battle[1], field) for field in battle[2]])


def field_rises(first, second, field):
    for x in range(first + 1):
        for y in range(second + 1):
            here = won(field, x, y)
            if x < first and won(field, x + 1, y) < here:
                return False
            if y < second and won(field, x, y + 1) > here:
                return False
    return True
