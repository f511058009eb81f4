"""Flat forms: their writing, and the fills that tell what stood at their nodes."""

from formsmith.pens import Pen, Refused, references_to
from formsmith.scopes import scope_in_loop, stood_for
from formsmith.ways import way_of


def flat_written(form, values):
    pen = Pen()
    try:
        fill_of(form, (references_to(values), None), pen)
    except Refused as refusal:
        return pen.outcome_refused(refusal.word)
    return pen.outcome_written()


def filled(form, values):
    try:
        fill = fill_of(form, (references_to(values), None), Pen())
    except Refused as refusal:
        return ("refused", refusal.word)
    return ("filled", fill)


def fill_of(nodes, scope, pen):
    # Writing and filling are one walk, so that both count and refuse alike.
    fill = []
    for node in nodes:
        if node[0] == "text":
            pen.write(node[1])
        elif node[0] == "place":
            fill.append(pen.put(stood_for(node[1], scope), node[2]))
        elif node[0] == "loop":
            fill.append(fills_of_rounds(node, scope, pen))
        else:
            truth = pen.truth_wanted(stood_for(node[1], scope))
            fill.append((truth, fill_of(node[2] if truth else node[3], scope, pen)))
    return fill


def fills_of_rounds(node, scope, pen):
    fills = []
    for number, thing in enumerate(pen.list_wanted(stood_for(node[2], scope))):
        pen.begin_round(number, node[4])
        fills.append(fill_of(node[3], scope_in_loop(node[1], (thing,), scope), pen))
    return fills


def spelt(form, fill):
    parts = []
    place = 0
    for node in form:
        if node[0] == "text":
            parts.append(node[1])
        else:
            parts.append(spelt_node(node, fill[place]))
            place = place + 1
    return "".join(parts)


def spelt_node(node, filling):
    if node[0] == "place":
        return way_of(node[2]).coded(filling)
    if node[0] == "loop":
        return node[4].join([spelt(node[3], fill) for fill in filling])
    return spelt(node[2] if filling[0] else node[3], filling[1])
