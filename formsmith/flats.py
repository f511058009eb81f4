"""Flat forms: their writing, and the fills that tell what stood at their nodes."""

from formsmith.pens import Pen, Refused, led_on, references_to
from formsmith.ways import way_of


def flat_written(form, values):
    pen = Pen()
    try:
        fill_of(form, references_to(values), pen)
    except Refused as refusal:
        return pen.outcome_refused(refusal.word)
    return pen.outcome_written()


def filled(form, values):
    try:
        fill = fill_of(form, references_to(values), Pen())
    except Refused as refusal:
        return ("refused", refusal.word)
    return ("filled", fill)


def fill_of(nodes, references, pen):
    # Writing and filling are one walk, so that both count and refuse alike.
    fill = []
    for node in nodes:
        if node[0] == "text":
            pen.write(node[1])
        elif node[0] == "place":
            fill.append(pen.put(referred(node[1], references), node[2]))
        elif node[0] == "loop":
            fill.append(fills_of_rounds(node, references, pen))
        else:
            truth = pen.truth_wanted(referred(node[1], references))
            fill.append((truth, fill_of(node[2] if truth else node[3], references, pen)))
    return fill


def fills_of_rounds(node, references, pen):
    fills = []
    for number, thing in enumerate(pen.list_wanted(referred(node[2], references))):
        pen.begin_round(number, node[4])
        within = dict(references)
        within[node[1]] = (thing, ())
        fills.append(fill_of(node[3], within, pen))
    return fills


def referred(path, references):
    return led_on(references[path[0]], path[1:])


def spelt(form, fill):
    parts = []
    place = 0
    for node in form:
        if node[0] == "text":
            parts.append(node[1])
        else:
            parts.append(spelt_node(node, fill[place]))
            place = place + 1
    return "".join(parts)


def spelt_node(node, filling):
    if node[0] == "place":
        return way_of(node[2]).coded(filling)
    if node[0] == "loop":
        return node[4].join([spelt(node[3], fill) for fill in filling])
    return spelt(node[2] if filling[0] else node[3], filling[1])
