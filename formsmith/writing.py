"""Writing by trees: a book's nodes are written as they stand."""

from formsmith.pens import Pen, Refused, references_to
from formsmith.scopes import scope_in_body, scope_in_loop, scope_in_use, stood_for
from formsmith.values import need_values


def written(book, values):
    main = book[-1]
    need_values(main[2], values)
    writer = Writer(book)
    try:
        writer.write_nodes(main[4], (references_to(values), None))
    except Refused as refusal:
        return writer.pen.outcome_refused(refusal.word)
    return writer.pen.outcome_written()


class Writer:

    def __init__(self, book):
        self.pen = Pen()
        self.pieces = {}
        for piece in book:
            self.pieces[piece[1]] = piece

    def write_nodes(self, nodes, scope):
        for node in nodes:
            self.write_node(node, scope)

    def write_node(self, node, scope):
        kind = node[0]
        if kind == "text":
            self.pen.write(node[1])
        elif kind == "place":
            self.pen.put(stood_for(node[1], scope), node[2])
        elif kind == "loop":
            self.write_rounds(node, scope)
        elif kind == "choice":
            truth = self.pen.truth_wanted(stood_for(node[1], scope))
            self.write_nodes(node[2] if truth else node[3], scope)
        elif kind == "use":
            piece = self.pieces[node[1]]
            self.write_nodes(piece[4], scope_in_use(node, piece, scope))
        else:
            body = scope[1]
            self.write_nodes(body[1], scope_in_body(node[1], scope))

    def write_rounds(self, node, scope):
        things = self.pen.list_wanted(stood_for(node[2], scope))
        for number, thing in enumerate(things):
            self.pen.begin_round(number, node[4])
            self.write_nodes(node[3], scope_in_loop(node[1], (thing,), scope))
