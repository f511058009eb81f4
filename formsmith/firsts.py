"""What nodes of a flat form begin with, and which of them may be empty."""

from formsmith.signs import signs
from formsmith.ways import way_of


def begins(nodes):
    first = ""
    for node in nodes:
        told = node_begins(node)
        first = signs_of_both(first, told[0])
        if not told[1]:
            return (first, False)
    return (first, True)


def node_begins(node):
    if node[0] == "text":
        return (node[1][:1], node[1] == "")
    if node[0] == "place":
        way = way_of(node[2])
        return (way.begins(), way.is_void())
    if node[0] == "loop":
        inner = begins(node[3])
        # Rounds with nothing in them let what stands between them come first.
        between = node[4][:1] if inner[1] else ""
        return (signs_of_both(inner[0], between), True)
    yes = begins(node[2])
    no = begins(node[3])
    return (signs_of_both(yes[0], no[0]), yes[1] or no[1])


def signs_of_both(one, other):
    return "".join([sign for sign in signs() if sign in one or sign in other])
