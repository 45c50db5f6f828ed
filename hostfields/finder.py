"""The worth of a battle, with a paper of each side.

Plans aren't all gone through. A few plans of each side are held against one another, and of all plans those that
answer the mixes found so best are laid to them, until none does better than what was found: few plans ever count.
"""

from hostfields.fields import look_battle, look_within, won, won_in_all
from hostfields.grids import Grid, column_weights, lay_column, lay_row, row_weights, turn_to_end
from hostfields.least import answer_to, shown_by
from hostfields.mixes import stream_of
from hostfields.tables import flat

MOST_HOSTS = 7
MOST_FIELDS = 4
ROUGH = 10000


class Search:
    def __init__(self, battle, ones, others):
        self.battle = battle
        self.ones = ones
        self.others = others
        # With so much more each plan wins more than 0 against each other one, as a grid asks.
        self.lift = 1 - sum([min(flat(numbers)) for numbers in won_tables(battle)])
        self.grid = Grid([row_against(self, one) for one in ones], [1] * len(ones))
        turn_to_end(self.grid)


def look_findable(battle):
    look_battle(battle)
    look_within(battle, MOST_HOSTS, MOST_FIELDS)


def battle_worth(battle):
    look_findable(battle)
    # Numbers of few figures are soon reckoned with, and mostly the same plans count for them: so most of the search is
    # done with rounded ones. Whatever it finds, the search behind it starts from there and goes on to its own end.
    fields = len(battle[2])
    rough = Search(rounded(battle), [all_ahead(battle[0], fields)], [all_ahead(battle[1], fields)])
    search_to_end(rough)
    search = Search(battle, [plan for plan, weight in one_mix(rough)], [plan for plan, weight in other_mix(rough)])
    return search_to_end(search)


def all_ahead(hosts, fields):
    return [hosts] + [0] * (fields - 1)


def won_tables(battle):
    return [won_table(battle, field) for field in battle[2]]


def won_table(battle, field):
    return [won_row(field, x, battle[1]) for x in range(battle[0] + 1)]


def won_row(field, x, second):
    return [won(field, x, y) for y in range(second + 1)]


def rounded(battle):
    tables = won_tables(battle)
    greatest = max([abs(number) for number in flat(flat(tables))])
    part = greatest // ROUGH + 1
    return (battle[0], battle[1], [("table", rounded_table(table, part)) for table in tables])


def rounded_table(table, part):
    return [rounded_row(row, part) for row in table]


def rounded_row(row, part):
    return [number // part for number in row]


def row_against(search, one):
    return [won_in_all(search.battle[2], one, other) + search.lift for other in search.others]


def column_against(search, other):
    return [won_in_all(search.battle[2], one, other) + search.lift for one in search.ones]


def one_mix(search):
    return mix_by(search.ones, row_weights(search.grid))


def other_mix(search):
    return mix_by(search.others, column_weights(search.grid))


def mix_by(plans, weights):
    return [(plan, weight) for plan, weight in zip(plans, weights) if weight > 0]


def search_to_end(search):
    """A tuple of the worth and a paper of each side."""
    while True:
        one = found(search.battle, "first", one_mix(search))
        other = found(search.battle, "second", other_mix(search))
        # The first side can't show more than the second one: where it shows as much, both show the worth.
        if one[0] == other[0]:
            return (one[0], one[1], other[1])
        lay_answers(search, one[2], other[2])


def found(battle, side, mix):
    """A tuple of what the mix shows, the paper of it, and the other side's best answer."""
    stream = stream_of(mix)
    answer = answer_to(battle, side, stream)
    return (shown_by(answer[0], stream), (stream, answer[0]), answer[1])


def lay_answers(search, to_one, to_other):
    # While the two show unlike worths, one of the answers at least does better than all plans that are here: so each
    # round brings a new plan, and there is an end.
    if to_one not in search.others:
        search.others.append(to_one)
        lay_column(search.grid, column_against(search, to_one))
    if to_other not in search.ones:
        search.ones.append(to_other)
        lay_row(search.grid, row_against(search, to_other))
