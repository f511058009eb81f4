"""Joining: one flat form into which all pieces of a book are put."""

from formsmith.scopes import scope_in_body, scope_in_loop, scope_in_use, stood_for


def joined(book):
    main = book[-1]
    paths = {}
    for name in main[2]:
        paths[name] = (name,)
    return Joiner(book).nodes_put_in(main[4], (paths, None))


def add_node(nodes, node):
    if node[0] == "text" and nodes and nodes[-1][0] == "text":
        nodes[-1] = ("text", nodes[-1][1] + node[1])
    else:
        nodes.append(node)


class Joiner:

    def __init__(self, book):
        self.loops = 0
        self.pieces = {}
        for piece in book:
            self.pieces[piece[1]] = piece

    def nodes_put_in(self, nodes, scope):
        made = []
        for node in nodes:
            for one in self.put_in(node, scope):
                add_node(made, one)
        return tuple(made)

    def put_in(self, node, scope):
        kind = node[0]
        if kind == "text":
            return (node,)
        if kind == "place":
            return (("place", stood_for(node[1], scope), node[2]),)
        if kind == "loop":
            return (self.loop_put_in(node, scope),)
        if kind == "choice":
            yes = self.nodes_put_in(node[2], scope)
            no = self.nodes_put_in(node[3], scope)
            return (("choice", stood_for(node[1], scope), yes, no),)
        if kind == "use":
            piece = self.pieces[node[1]]
            return self.nodes_put_in(piece[4], scope_in_use(node, piece, scope))
        body = scope[1]
        return self.nodes_put_in(body[1], scope_in_body(node[1], scope))

    def loop_put_in(self, node, scope):
        # The number is taken ahead of the nodes: each loop stands ahead of those within it.
        name = "v" + str(self.loops)
        self.loops = self.loops + 1
        nodes = self.nodes_put_in(node[3], scope_in_loop(node[1], (name,), scope))
        return ("loop", name, stood_for(node[2], scope), nodes, node[4])
