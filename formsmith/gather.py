"""Gathering: what a fill tells of the values by which it was filled.

What is told is built up in place. A spot is a tuple of a record or list and
of the field or number in it; there stands None, or nothing, where nothing was
told yet.
"""

from formsmith.errors import Clash


def gathered(form, fill):
    told = {}
    gather_nodes(form, fill, {}, told)
    return told


def gather_nodes(nodes, fill, spots, told):
    place = 0
    for node in nodes:
        if node[0] != "text":
            gather_node(node, fill[place], spots, told)
            place = place + 1


def gather_node(node, filling, spots, told):
    if node[0] == "place":
        tell(spot_of(node[1], spots, told), filling)
    elif node[0] == "loop":
        gather_rounds(node, filling, spots, told)
    else:
        tell(spot_of(node[1], spots, told), filling[0])
        gather_nodes(node[2] if filling[0] else node[3], filling[1], spots, told)


def gather_rounds(node, fills, spots, told):
    things = list_at(spot_of(node[2], spots, told), len(fills))
    for number, fill in enumerate(fills):
        within = dict(spots)
        within[node[1]] = (things, number)
        gather_nodes(node[3], fill, within, told)


def spot_of(path, spots, told):
    spot = spots.get(path[0], (told, path[0]))
    for field in path[1:]:
        spot = (record_at(spot), field)
    return spot


def thing_at(spot):
    holder = spot[0]
    if isinstance(holder, dict):
        return holder.get(spot[1])
    return holder[spot[1]]


def put_at(spot, thing):
    holder = spot[0]
    holder[spot[1]] = thing


def record_at(spot):
    if thing_at(spot) is None:
        put_at(spot, {})
    record = thing_at(spot)
    if not isinstance(record, dict):
        raise Clash("a record is told of something else")
    return record


def list_at(spot, many):
    if thing_at(spot) is None:
        put_at(spot, [None] * many)
    things = thing_at(spot)
    if not isinstance(things, list) or len(things) != many:
        raise Clash("a list is told of something else, or of another length")
    return things


def tell(spot, thing):
    if thing_at(spot) is None:
        put_at(spot, thing)
    elif not are_alike(thing_at(spot), thing):
        raise Clash("two things are told of one")


def are_alike(one, other):
    # Python takes truths and numbers for alike; here they are of unlike kinds.
    return isinstance(one, bool) == isinstance(other, bool) and one == other
