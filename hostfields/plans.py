"""Plans and counts by numbers, in the order of lists, without going through them all."""

from hostfields.errors import NoPlan
from hostfields.wholes import is_between, is_from

MOST_HOSTS = 40
MOST_FIELDS = 8


def is_plan(hosts, fields, plan):
    return sends_hosts(plan) and len(plan) == fields and sum(plan) == hosts


def sends_hosts(plan):
    return isinstance(plan, list) and all([is_from(sent, 0) for sent in plan])


def never_rises(plan):
    return all([plan[place] >= plan[place + 1] for place in range(len(plan) - 1)])


def is_size(hosts, fields):
    return is_between(hosts, 0, MOST_HOSTS) and is_between(fields, 1, MOST_FIELDS)


def look_size(hosts, fields):
    if not is_size(hosts, fields):
        raise NoPlan("hosts are from 0 to 40, fields from 1 to 8")


def look_number(number, many):
    if not is_between(number, 0, many - 1):
        raise NoPlan("none has this number")


def look_plan(plan):
    if not sends_hosts(plan) or not is_size(sum(plan), len(plan)):
        raise NoPlan("no plan of these hosts and fields")


def look_counts(counts):
    look_plan(counts)
    if not never_rises(counts):
        raise NoPlan("counts never rise")


def plans_many(hosts, fields):
    look_size(hosts, fields)
    return ways_to_part(hosts, fields)


def ways_to_part(hosts, fields):
    many = 1
    for step in range(1, fields):
        # Behind each step this is the number for step + 1 fields, so nothing is lost in dividing.
        many = many * (hosts + step) // step
    return many


def plan_number(plan):
    look_plan(plan)
    left = sum(plan)
    number = 0
    # The last field gets what is left, so nothing is to be chosen there.
    for place, sent in enumerate(plan[:-1]):
        later = len(plan) - place - 1
        number += sum([ways_to_part(left - fewer, later) for fewer in range(sent)])
        left -= sent
    return number


def plan_of(hosts, fields, number):
    look_size(hosts, fields)
    look_number(number, ways_to_part(hosts, fields))
    plan = []
    left = hosts
    ahead = number
    for later in range(fields - 1, 0, -1):
        sent = 0
        while ahead >= ways_to_part(left - sent, later):
            ahead -= ways_to_part(left - sent, later)
            sent += 1
        plan.append(sent)
        left -= sent
    plan.append(left)
    return plan


def counts_many(hosts, fields):
    look_size(hosts, fields)
    return capped_ways(hosts, fields)[hosts][fields][hosts]


def capped_ways(hosts, fields):
    # By cap, places and sum: how many lists of so many places, none of whose numbers is above the cap,
    # never rise and come to the sum. Those that begin with a lesser number than v have the cap v - 1.
    ways = [[1] + [0] * hosts] + [[0] * (hosts + 1) for place in range(fields)]
    table = []
    for cap in range(hosts + 1):
        ways = with_cap(ways, cap)
        table.append(ways)
    return table


def with_cap(ways, cap):
    # A list that was not there under the lesser cap begins with the cap; behind it any list under the cap may stand.
    wider = [list(ways[0])]
    for lesser in ways[1:]:
        behind = wider[-1]
        wider.append([many + (behind[total - cap] if total >= cap else 0) for total, many in enumerate(lesser)])
    return wider


def counts_number(counts):
    look_counts(counts)
    left = sum(counts)
    table = capped_ways(left, len(counts))
    number = 0
    for place, sent in enumerate(counts):
        if sent > 0:
            number += table[sent - 1][len(counts) - place][left]
        left -= sent
    return number


def counts_of(hosts, fields, number):
    look_size(hosts, fields)
    table = capped_ways(hosts, fields)
    look_number(number, table[hosts][fields][hosts])
    counts = []
    left = hosts
    ahead = number
    for places in range(fields, 0, -1):
        sent = 0
        while ahead >= table[sent][places][left]:
            sent += 1
        if sent > 0:
            ahead -= table[sent - 1][places][left]
        counts.append(sent)
        left -= sent
    return counts
