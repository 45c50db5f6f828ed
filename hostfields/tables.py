"""Tables that several modules reckon by: the dues of a stream with their bounds, and what counts win."""

from hostfields.errors import NoSide
from hostfields.fields import won


def flat(rows):
    told = []
    for row in rows:
        told.extend(row)
    return told


def look_side(side):
    if side not in ("first", "second"):
        raise NoSide("a side is first or second")


def own_hosts(battle, side):
    return battle[0] if side == "first" else battle[1]


def other_hosts(battle, side):
    return battle[1] if side == "first" else battle[0]


def dues(battle, side, stream):
    most = other_hosts(battle, side)
    return [row_dues(field, side, row, most) for field, row in zip(battle[2], stream)]


def row_dues(field, side, row, most):
    return [due(field, side, row, count) for count in range(most + 1)]


def due(field, side, row, count):
    if side == "first":
        return sum([flow * won(field, sent, count) for left, sent, flow in row])
    return sum([flow * won(field, count, sent) for left, sent, flow in row])


# What the table's number at a count of the other side's hosts is held to, for each number of them that may be sent to
# the field: behind is the table's row of the next field, None at the last one, to which all are sent.
def bounds(field_dues, behind, count):
    if behind is None:
        return [field_dues[count]]
    return [field_dues[sent] + behind[count - sent] for sent in range(count + 1)]


# What one list of hosts wins against another, each number of the one on a field with each of the other.
def won_together(field, one, other):
    total = 0
    for x in one:
        total += sum([won(field, x, y) for y in other])
    return total


def together_table(field, ones, others):
    return [together_row(field, one, others) for one in ones]


def together_row(field, one, others):
    return [won_together(field, one, other) for other in others]
