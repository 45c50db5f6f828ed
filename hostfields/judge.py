"""The judge of papers. He knows nothing of how they are found, and holds each number to the battle alone."""

from hostfields.fields import is_table, look_battle
from hostfields.mixes import is_stream, whole_in
from hostfields.tables import bounds, dues, look_side, other_hosts, own_hosts


def judged(battle, side, worth, paper):
    look_battle(battle)
    look_side(side)
    wrong = wrong_form(battle, side, paper)
    if wrong is None:
        wrong = wrong_number(battle, side, paper)
    if wrong is None:
        wrong = wrong_worth(battle, side, worth, paper)
    return wrong


def wrong_form(battle, side, paper):
    fields = len(battle[2])
    if not isinstance(paper, tuple) or len(paper) != 2:
        return ("paper",)
    if not is_stream(own_hosts(battle, side), fields, paper[0]):
        return ("stream",)
    if not is_table(fields, other_hosts(battle, side) + 1, paper[1]):
        return ("table",)
    return None


def wrong_number(battle, side, paper):
    table = paper[1]
    for field, field_dues in enumerate(dues(battle, side, paper[0])):
        behind = table[field + 1] if field + 1 < len(table) else None
        for count, number in enumerate(table[field]):
            if not all([keeps(side, number, bound) for bound in bounds(field_dues, behind, count)]):
                return ("number", field, count)
    return None


def keeps(side, number, bound):
    return number <= bound if side == "first" else number >= bound


def wrong_worth(battle, side, worth, paper):
    shown = paper[1][0][other_hosts(battle, side)]
    # Both are multiplied by the worth's bottom, which is above 0, so that nothing is divided.
    if keeps(side, worth[0] * whole_in(paper[0]), shown * worth[1]):
        return None
    return ("worth",)
