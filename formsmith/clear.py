"""Whether a flat form is clear: at each sign it is plain how reading goes on.

Beginnings are a tuple of signs and of whether the text's end is among them.
"""

from formsmith.firsts import begins, signs_of_both
from formsmith.ways import way_of

# What may follow a whole form.
TEXT_END = ("", True)


def unclear(form):
    return unclear_among(form, TEXT_END)


def unclear_among(nodes, behind):
    follows = followers(nodes, behind)
    for place, node in enumerate(nodes):
        way = unclear_in(node, follows[place])
        if way is not None:
            return (place,) + way
    return None


def followers(nodes, behind):
    # From the last one on: what follows a node hangs on those behind it.
    told = []
    follow = behind
    for node in reversed(nodes):
        told.append(follow)
        follow = beginnings((node,), follow)
    return list(reversed(told))


def beginnings(nodes, follow):
    first = begins(nodes)
    if first[1]:
        return (signs_of_both(first[0], follow[0]), follow[1])
    return (first[0], False)


def behind_rounds(loop, follow):
    again = loop[4][:1] if loop[4] else begins(loop[3])[0]
    return (signs_of_both(follow[0], again), follow[1])


def unclear_in(node, follow):
    if not is_clear(node, follow):
        return ()
    if node[0] == "loop":
        return unclear_among(node[3], behind_rounds(node, follow))
    if node[0] == "choice":
        for side, nodes in enumerate((node[2], node[3])):
            way = unclear_among(nodes, follow)
            if way is not None:
                return (side,) + way
    return None


def is_clear(node, follow):
    if node[0] == "place":
        ends = way_of(node[2]).ends()
        return all([sign in ends for sign in follow[0]])
    if node[0] == "loop":
        return is_clear_loop(node, follow)
    if node[0] == "choice":
        yes = beginnings(node[2], follow)
        no = beginnings(node[3], follow)
        return not have_common(yes[0], no[0]) and not (yes[1] and no[1])
    return True


def is_clear_loop(loop, follow):
    first = begins(loop[3])
    return not first[1] and not have_common(first[0] + loop[4][:1], follow[0])


def have_common(one, other):
    return any([sign in other for sign in one])
