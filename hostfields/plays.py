"""Mixes that are played by numbers, and what two of them win against one another."""

from hostfields.errors import NoMix, NoNumber
from hostfields.fields import look_battle, won
from hostfields.mixes import is_mix, look_mix, shares_of, stream_of
from hostfields.plans import is_plan
from hostfields.ratios import ratio
from hostfields.wholes import is_between


def whole_of(mix):
    look_mix(mix)
    return whole_weight(mix)


def whole_weight(mix):
    return sum([weight for plan, weight in mix])


def played(mix, number):
    look_mix(mix)
    if not is_between(number, 0, whole_weight(mix) - 1):
        raise NoNumber("a mix is played by a number from 0 on that is less than its whole")
    place = 0
    upto = mix[0][1]
    while upto <= number:
        place += 1
        upto += mix[place][1]
    return list(mix[place][0])


def mixed_gain(battle, one, other):
    look_battle(battle)
    look_own_mix(battle[0], len(battle[2]), one)
    look_own_mix(battle[1], len(battle[2]), other)
    # What is won hangs on the shares alone: so no plan is held against each of the other side's.
    ours = shares_of(stream_of(one))
    theirs = shares_of(stream_of(other))
    total = sum([won_by_shares(field, own, others) for field, own, others in zip(battle[2], ours, theirs)])
    return ratio(total, whole_weight(one) * whole_weight(other))


def look_own_mix(hosts, fields, mix):
    # All plans of a mix have the same hosts and fields, so the first one tells whose they are.
    if not is_mix(mix) or not is_plan(hosts, fields, mix[0][0]):
        raise NoMix("no mix of the side's plans")


def won_by_shares(field, own, others):
    return sum([share * won_by_count(field, x, others) for x, share in enumerate(own)])


def won_by_count(field, x, others):
    return sum([share * won(field, x, y) for y, share in enumerate(others)])
