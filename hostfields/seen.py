"""Battles that are seen: fields gone to one behind another, where both sides know ahead of each what is left."""

from hostfields.fields import look_battle, look_within, won
from hostfields.games import worth_over
from hostfields.ratios import below, common_divisor, is_fraction
from hostfields.wholes import is_from

MOST_HOSTS = 5
MOST_FIELDS = 3


def look_seen(battle):
    look_battle(battle)
    look_within(battle, MOST_HOSTS, MOST_FIELDS)


def seen_worth(battle):
    return seen_paper(battle)[0][-1][-1][0]


def seen_paper(battle):
    look_seen(battle)
    paper = []
    behind = None
    for field in reversed(battle[2]):
        behind = [standings_row(field, behind, x, battle[1]) for x in range(battle[0] + 1)]
        paper.append(behind)
    return list(reversed(paper))


def standings_row(field, behind, x, second):
    return [standing_found(field, behind, x, y) for y in range(second + 1)]


# Behind are the standings of the next field, None at the last one.
def standing_found(field, behind, x, y):
    if behind is None:
        return ((won(field, x, y), 1), [0] * x + [1], [0] * y + [1])
    rows = [brought_row(field, behind, x, y, sent) for sent in range(x + 1)]
    # Each row gets a bottom of its own: one for all of them would be many times as long.
    bottoms = [common_bottom(row) for row in rows]
    return worth_over([tops_over(row, bottom) for row, bottom in zip(rows, bottoms)], bottoms)


def brought_row(field, behind, x, y, sent):
    return [brought(field, behind, x, y, sent, other) for other in range(y + 1)]


# What a standing brings by what both sides send: a tuple of top and bottom.
def brought(field, behind, x, y, sent, other):
    worth = behind[x - sent][y - other][0]
    return (won(field, sent, other) * worth[1] + worth[0], worth[1])


def common_bottom(fractions):
    bottom = 1
    for fraction in fractions:
        bottom = bottom // common_divisor(bottom, fraction[1]) * fraction[1]
    return bottom


def tops_over(fractions, bottom):
    return [fraction[0] * (bottom // fraction[1]) for fraction in fractions]


def seen_judged(battle, paper):
    look_seen(battle)
    if not has_form(battle, paper):
        return ("form",)
    return wrong_standing(battle, paper)


def is_list_of(thing, many):
    return isinstance(thing, list) and len(thing) == many


def has_form(battle, paper):
    if not is_list_of(paper, len(battle[2])):
        return False
    return all([field_has_form(battle, standings) for standings in paper])


def field_has_form(battle, standings):
    if not is_list_of(standings, battle[0] + 1):
        return False
    return all([row_has_form(x, battle[1], row) for x, row in enumerate(standings)])


def row_has_form(x, second, row):
    if not is_list_of(row, second + 1):
        return False
    return all([standing_has_form(x, y, standing) for y, standing in enumerate(row)])


def standing_has_form(x, y, standing):
    if not isinstance(standing, tuple) or len(standing) != 3:
        return False
    return is_fraction(standing[0]) and are_weights(x, standing[1]) and are_weights(y, standing[2])


def are_weights(hosts, weights):
    if not is_list_of(weights, hosts + 1) or not all([is_from(weight, 0) for weight in weights]):
        return False
    return any([weight > 0 for weight in weights])


def wrong_standing(battle, paper):
    behind = None
    for number in range(len(paper) - 1, -1, -1):
        for x, row in enumerate(paper[number]):
            for y, standing in enumerate(row):
                if not is_right(battle[2][number], behind, x, y, standing):
                    return ("standing", number, x, y)
        behind = paper[number]
    return None


def is_right(field, behind, x, y, standing):
    if behind is None:
        sends_all = not any(standing[1][:-1]) and not any(standing[2][:-1])
        return sends_all and standing[0] == (won(field, x, y), 1)
    rows = [brought_row(field, behind, x, y, sent) for sent in range(x + 1)]
    return first_keeps(standing, rows) and second_keeps(standing, rows)


def first_keeps(standing, rows):
    kept = all_times(standing[0], standing[1])
    return not any([below(column_sum(standing[1], rows, other), kept) for other in range(len(rows[0]))])


def second_keeps(standing, rows):
    kept = all_times(standing[0], standing[2])
    return not any([below(kept, weighed(standing[2], row)) for row in rows])


def column_sum(weights, rows, other):
    return weighed(weights, [row[other] for row in rows])


# This and the next one aren't brought to lowest terms: they are only held against one another, and may be long.
def all_times(worth, weights):
    return (worth[0] * sum(weights), worth[1])


def weighed(weights, fractions):
    top = 0
    bottom = 1
    for weight, fraction in zip(weights, fractions):
        top = top * fraction[1] + weight * fraction[0] * bottom
        bottom = bottom * fraction[1]
    return (top, bottom)
