"""Even battles: what the one side wins with some hosts the other one wins with the same."""

from hostfields.changes import paper_exchanged
from hostfields.errors import NoEven
from hostfields.fields import look_battle, won
from hostfields.finder import battle_worth, look_findable


def is_even(battle):
    look_battle(battle)
    return battle[0] == battle[1] and all([field_is_even(battle[0], field) for field in battle[2]])


def field_is_even(hosts, field):
    return all([count_is_even(field, x) for x in range(hosts + 1)])


def count_is_even(field, x):
    return all([won(field, x, y) == -won(field, y, x) for y in range(x + 1)])


def even_papers(battle):
    look_findable(battle)
    if not is_even(battle):
        raise NoEven("the battle is not even")
    # Exchanged, the battle pays what it paid: so what keeps the first side from losing keeps the second from it too.
    one = battle_worth(battle)[1]
    return (one, paper_exchanged(one))
