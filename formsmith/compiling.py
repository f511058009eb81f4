"""Compiling: a good book as a program of rows for the machine."""


def compiled(book):
    compiler = Compiler(book)
    for number, piece in enumerate(book):
        compiler.compile_block(number, piece[4], piece[2])
    return tuple(compiler.blocks)


class Compiler:

    def __init__(self, book):
        self.numbers = {}
        for number, piece in enumerate(book):
            self.numbers[piece[1]] = number
        # Places are kept for blocks: a body's number is told ahead of its rows.
        self.blocks = [()] * len(book)

    def compile_block(self, number, nodes, names):
        self.blocks[number] = tuple(self.rows_of(nodes, names)) + (("back",),)

    def rows_of(self, nodes, names):
        rows = []
        for node in nodes:
            rows.extend(self.rows_of_node(node, names))
        return rows

    def rows_of_node(self, node, names):
        kind = node[0]
        if kind == "text":
            return [("write", node[1])]
        if kind == "place":
            return rows_of_path(node[1], names) + [("put", node[2])]
        if kind == "loop":
            return self.rows_of_loop(node, names)
        if kind == "choice":
            return self.rows_of_choice(node, names)
        if kind == "use":
            return self.rows_of_use(node, names)
        return rows_of_paths(node[1], names) + [("body", len(node[1]))]

    def rows_of_loop(self, node, names):
        inner = self.rows_of(node[3], names + (node[1],))
        many = len(inner) + 1
        head = [("walk",), ("round", len(names), many, node[4])]
        return rows_of_path(node[2], names) + head + inner + [("again", many)]

    def rows_of_choice(self, node, names):
        yes = self.rows_of(node[2], names)
        no = self.rows_of(node[3], names)
        if node[3]:
            yes = yes + [("skip", len(no))]
        return rows_of_path(node[1], names) + [("unless", len(yes))] + yes + no

    def rows_of_use(self, node, names):
        block = None if node[4] is None else self.number_of_body(node, names)
        use = ("use", self.numbers[node[1]], len(node[2]), block, len(names))
        return rows_of_paths(node[2], names) + [use]

    def number_of_body(self, node, names):
        number = len(self.blocks)
        self.blocks.append(())
        self.compile_block(number, node[4], names + node[3])
        return number


def rows_of_paths(paths, names):
    rows = []
    for path in paths:
        rows.extend(rows_of_path(path, names))
    return rows


def rows_of_path(path, names):
    return [("load", inmost_slot(path[0], names))] + [("field", field) for field in path[1:]]


def inmost_slot(name, names):
    slot = len(names) - 1
    while names[slot] != name:
        slot = slot - 1
    return slot
