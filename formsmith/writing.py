"""Writing by trees: a book's nodes are written as they stand.

A scope is a tuple of what each name stands for, as references, and of the
body that was handed to the piece: None, or a tuple of its names, its nodes
and the scope of its use.
"""

from formsmith.pens import Pen, Refused, led_on, references_to
from formsmith.values import need_values


def written(book, values):
    main = book[-1]
    need_values(main[2], values)
    writer = Writer(book)
    try:
        writer.write_nodes(main[4], (references_to(values), None))
    except Refused as refusal:
        return writer.pen.outcome_refused(refusal.word)
    return writer.pen.outcome_written()


def referred(path, scope):
    return led_on(scope[0][path[0]], path[1:])


def bind_all(references, names, paths, scope):
    for name, path in zip(names, paths):
        references[name] = referred(path, scope)
    return references


class Writer:

    def __init__(self, book):
        self.pen = Pen()
        self.pieces = {}
        for piece in book:
            self.pieces[piece[1]] = piece

    def write_nodes(self, nodes, scope):
        for node in nodes:
            self.write_node(node, scope)

    def write_node(self, node, scope):
        kind = node[0]
        if kind == "text":
            self.pen.write(node[1])
        elif kind == "place":
            self.pen.put(referred(node[1], scope), node[2])
        elif kind == "loop":
            self.write_loop(node, scope)
        elif kind == "choice":
            truth = self.pen.truth_wanted(referred(node[1], scope))
            self.write_nodes(node[2] if truth else node[3], scope)
        elif kind == "use":
            self.write_use(node, scope)
        else:
            self.write_body(node, scope)

    def write_loop(self, node, scope):
        things = self.pen.list_wanted(referred(node[2], scope))
        for number, thing in enumerate(things):
            self.pen.begin_round(number, node[4])
            references = dict(scope[0])
            references[node[1]] = (thing, ())
            self.write_nodes(node[3], (references, scope[1]))

    def write_use(self, node, scope):
        piece = self.pieces[node[1]]
        body = None if node[4] is None else (node[3], node[4], scope)
        references = bind_all({}, piece[2], node[2], scope)
        self.write_nodes(piece[4], (references, body))

    def write_body(self, node, scope):
        body = scope[1]
        user = body[2]
        references = bind_all(dict(user[0]), body[0], node[1], scope)
        self.write_nodes(body[1], (references, user[1]))
