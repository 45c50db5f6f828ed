"""Best answers: what a stream wins at least (loses at most), and a plan of the other side that brings it to that."""

from hostfields.errors import NoStream
from hostfields.fields import look_battle
from hostfields.mixes import is_stream, whole_in
from hostfields.ratios import ratio
from hostfields.tables import bounds, dues, look_side, own_hosts


def answer_table(battle, side, stream):
    look_own_stream(battle, side, stream)
    return answer_to(battle, side, stream)[0]


def shown(battle, side, stream):
    look_own_stream(battle, side, stream)
    return shown_by(answer_to(battle, side, stream)[0], stream)


def best_answer(battle, side, stream):
    look_own_stream(battle, side, stream)
    return answer_to(battle, side, stream)[1]


def look_own_stream(battle, side, stream):
    look_battle(battle)
    look_side(side)
    if not is_stream(own_hosts(battle, side), len(battle[2]), stream):
        raise NoStream("no stream of the side's hosts over the battle's fields")


# Looks at nothing: for those who know that the stream is the side's own.
def answer_to(battle, side, stream):
    """A tuple of the table and a plan of the other side that brings the stream to what the table shows."""
    all_dues = dues(battle, side, stream)
    table = tightest_table(side, all_dues)
    return (table, plan_along(all_dues, table))


def tightest_table(side, all_dues):
    rows = []
    behind = None
    for field_dues in reversed(all_dues):
        behind = [tightest(side, bounds(field_dues, behind, count)) for count in range(len(field_dues))]
        rows.append(behind)
    return list(reversed(rows))


def tightest(side, numbers):
    return min(numbers) if side == "first" else max(numbers)


def plan_along(all_dues, table):
    plan = []
    left = len(table[0]) - 1
    for field in range(len(table) - 1):
        sent = bounds(all_dues[field], table[field + 1], left).index(table[field][left])
        plan.append(sent)
        left -= sent
    plan.append(left)
    return plan


def shown_by(table, stream):
    return ratio(table[0][-1], whole_in(stream))
