"""Battles whose fields are all alike: counts in the place of plans, and rings of turned plans."""

from hostfields.errors import NoAlike, NoMix
from hostfields.fields import look_battle, look_plans
from hostfields.games import table_worth
from hostfields.mixes import is_mix
from hostfields.plans import counts_many, counts_of, never_rises
from hostfields.ratios import ratio, times
from hostfields.tables import together_table, won_together


def is_alike(battle):
    look_battle(battle)
    return all([field == battle[2][0] for field in battle[2]])


def look_alike(battle):
    if not is_alike(battle):
        raise NoAlike("not all fields are the same")


def ring_of(plan):
    return [plan[start:] + plan[:start] for start in range(len(plan))]


def ring_gain(battle, one, other):
    look_alike(battle)
    look_plans(battle, one, other)
    # Over all turnings each number of the one meets each of the other on each field equally often.
    return ratio(won_together(battle[2][0], one, other), len(battle[2]))


def all_counts(hosts, fields):
    return [counts_of(hosts, fields, number) for number in range(counts_many(hosts, fields))]


def counts_table(battle):
    look_alike(battle)
    fields = len(battle[2])
    return together_table(battle[2][0], all_counts(battle[0], fields), all_counts(battle[1], fields))


def ring_mix(mix):
    if not is_mix(mix) or not all([never_rises(plan) for plan, weight in mix]):
        raise NoMix("no mix of counts")
    rings = []
    for plan, weight in mix:
        rings.extend([(turning, weight) for turning in ring_of(plan)])
    return rings


def counts_worth(battle):
    found = table_worth(counts_table(battle))
    fields = len(battle[2])
    one = counts_mix(battle[0], fields, found[1])
    other = counts_mix(battle[1], fields, found[2])
    return (times(found[0], (1, fields)), one, other)


def counts_mix(hosts, fields, weights):
    return [(counts_of(hosts, fields, number), weight) for number, weight in enumerate(weights) if weight > 0]
