"""Mixes of one side's plans, and the streams that tell them through the hosts that are left."""

from hostfields.errors import NoMix, NoStream
from hostfields.plans import is_plan, is_size, sends_hosts
from hostfields.wholes import is_between, is_from


def is_mix(mix):
    if not isinstance(mix, list) or len(mix) == 0 or not all([is_part(part) for part in mix]):
        return False
    hosts = sum(mix[0][0])
    fields = len(mix[0][0])
    return is_size(hosts, fields) and all([is_plan(hosts, fields, plan) for plan, weight in mix])


def is_part(part):
    return isinstance(part, tuple) and len(part) == 2 and sends_hosts(part[0]) and is_from(part[1], 1)


def look_mix(mix):
    if not is_mix(mix):
        raise NoMix("no mix of one side's plans")


def is_stream(hosts, fields, stream):
    if not begins(stream) or len(stream) != fields or not all([is_row(row) for row in stream]):
        return False
    comes_full = all([left == hosts for left, sent, flow in stream[0]])
    goes_empty = all([left == sent for left, sent, flow in stream[-1]])
    return comes_full and goes_empty and all([meets(ahead, row) for ahead, row in zip(stream, stream[1:])])


# Looks no further than the first field, so that the hosts can be read there.
def begins(stream):
    return isinstance(stream, list) and len(stream) > 0 and is_row(stream[0]) and len(stream[0]) > 0


def is_row(row):
    if not isinstance(row, list) or not all([is_flow(thing) for thing in row]):
        return False
    return all([one[:2] < other[:2] for one, other in zip(row, row[1:])])


def is_flow(thing):
    if not isinstance(thing, tuple) or len(thing) != 3:
        return False
    return is_from(thing[0], 0) and is_between(thing[1], 0, thing[0]) and is_from(thing[2], 1)


def meets(ahead, row):
    leaving = summed([(left - sent, flow) for left, sent, flow in ahead])
    return leaving == summed([(left, flow) for left, sent, flow in row])


def summed(pairs):
    sums = {}
    for key, amount in pairs:
        sums[key] = sums.get(key, 0) + amount
    return sums


def hosts_in(stream):
    return stream[0][0][0]


def is_any_stream(stream):
    if not begins(stream) or not is_size(hosts_in(stream), len(stream)):
        return False
    return is_stream(hosts_in(stream), len(stream), stream)


def look_stream(stream):
    if not is_any_stream(stream):
        raise NoStream("no stream of any hosts and fields")


def whole_in(stream):
    return sum([flow for left, sent, flow in stream[0]])


def stream_of(mix):
    look_mix(mix)
    return [row_of(mix, field) for field in range(len(mix[0][0]))]


def row_of(mix, field):
    flows = summed([((sum(plan[field:]), plan[field]), weight) for plan, weight in mix])
    return [(left, sent, flows[(left, sent)]) for left, sent in sorted(flows)]


def taken_apart(stream):
    look_stream(stream)
    hosts = hosts_in(stream)
    begun = [([], whole_in(stream))]
    for row in stream:
        begun = sent_on(sorted(begun, key=lambda part: hosts - sum(part[0])), row)
    return begun


def sent_on(begun, row):
    # Both lists go by the hosts that are left, and have the same weight for each number of them: so, laid side by
    # side, plans meet flows of their own, none the same one twice, and each flow cuts at most one plan in two.
    told = []
    place = 0
    used = 0
    for plan, weight in begun:
        rest = weight
        while rest > 0:
            taken = min(rest, row[place][2] - used)
            told.append((plan + [row[place][1]], taken))
            rest -= taken
            used += taken
            if used == row[place][2]:
                place += 1
                used = 0
    return told


def shares_of(stream):
    look_stream(stream)
    return [row_shares(hosts_in(stream), row) for row in stream]


def row_shares(hosts, row):
    flows = summed([(sent, flow) for left, sent, flow in row])
    return [flows.get(count, 0) for count in range(hosts + 1)]
