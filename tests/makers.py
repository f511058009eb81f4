"""Makes books, values and forms for the tests: the same ones each time, each by its number."""

import random

from formsmith.errors import TooMany
from formsmith.scopes import need_book

WAYS = ("word", "number", "quoted", "plain", "line")
TEXTS = ("a", "b ", ", ", "{", "}", "<", ">", "\n", "~", "^", '"', "-", "7", "|x|", "{x}", "...", "&", "{(}")
NAMES = ("x", "y", "z", "name", "abcdefgh")


class LooseMaker:
    """Makes books as point [8] tells them, whatever their names mean."""

    def __init__(self, seed):
        self.random = random.Random(seed)
        self.left = 200

    def book(self):
        return tuple(self.piece() for _ in range(self.random.randint(1, 8)))

    def piece(self):
        many = self.random.choice((None, 0, 1, 2, 3))
        nodes = self.nodes(1, self.random.randint(0, 7))
        return ("piece", self.name(), self.names(4), many, nodes)

    def name(self):
        return self.random.choice(NAMES)

    def names(self, most):
        return tuple(self.name() for _ in range(self.random.randint(0, most)))

    def path(self):
        return tuple(self.name() for _ in range(self.random.randint(1, 4)))

    def paths(self, most):
        return tuple(self.path() for _ in range(self.random.randint(0, most)))

    def nodes(self, depth, many):
        made = []
        for _ in range(many):
            if self.left and depth <= 8:
                self.left -= 1
                node = self.node(depth)
                if not (made and made[-1][0] == node[0] == "text"):
                    made.append(node)
        return tuple(made)

    def inner(self, depth):
        return self.nodes(depth + 1, self.random.randint(0, 3))

    def node(self, depth):
        kind = self.random.choice(("text", "text", "place", "loop", "choice", "use", "with", "body"))
        if kind == "text":
            return ("text", "".join(self.random.choices(TEXTS, k=self.random.randint(1, 3))))
        if kind == "place":
            return ("place", self.path(), self.random.choice(WAYS))
        if kind == "loop":
            between = self.random.choice(("", "", ", ", "{", "}", "\n"))
            return ("loop", self.name(), self.path(), self.inner(depth), between)
        if kind == "choice":
            return ("choice", self.path(), self.inner(depth), self.inner(depth))
        if kind == "use":
            return ("use", self.name(), self.paths(4), None, None)
        if kind == "with":
            return ("use", self.name(), self.paths(4), self.names(3), self.inner(depth))
        return ("body", self.paths(3))


RECORD = ("record", (("name", "text"), ("on", "truth"), ("num", "number")))
ROWS = ("list", RECORD)
ALL = ("record", (("rec", RECORD), ("rows", ROWS), ("words", ("list", "word")), ("nums", ("list", "number"))))
SHAPES = ("word", "text", "number", "truth", ("list", "word"), ("list", "number"), RECORD, ROWS, ALL)
FITTING = {
    "word": ("word", "quoted", "plain", "line"), "text": ("quoted", "plain", "line"), "number": ("number",),
    "truth": (), "list": (), "record": (),
}
VALUE_TEXTS = ("", "a", "Zeta", "two words", "a<b>c&d|e", "~", "line\nend", '"quoted"', "^", "{}", "~n", "-1", "  ")


def kind_of(shape):
    return shape if isinstance(shape, str) else shape[0]


def paths_of(bound):
    """All paths from the names that are bound, with the shapes of what they lead to."""
    found = []
    inmost = dict(bound)
    todo = [((name,), shape) for name, shape in inmost.items()]
    while todo:
        path, shape = todo.pop(0)
        found.append((path, shape))
        if kind_of(shape) == "record" and len(path) < 4:
            todo += [(path + (field,), inner) for field, inner in shape[1]]
    return found


class GoodMaker:
    """Makes good books, and values for them; most of these are written, some are refused."""

    def __init__(self, seed, faults=0.02):
        self.random = random.Random(seed)
        self.faults = faults
        self.elders = []
        self.main_shapes = ()

    def chance(self, share):
        return self.random.random() < share

    def book(self):
        many = self.random.randint(1, 5)
        pieces = [self.piece(chr(ord("p") + number), number == many - 1) for number in range(many)]
        return tuple(pieces)

    def piece(self, name, is_main):
        names = self.random.sample(NAMES, self.random.randint(1 if is_main else 0, 4))
        shapes = [self.random.choice(SHAPES) for _ in names]
        shapes[:1] = [self.random.choice((ALL, ALL, ROWS))] if names else []
        body = None
        if not is_main and self.chance(0.5):
            body = [self.random.choice(SHAPES) for _ in range(self.random.randint(0, 3))]
        many = self.random.randint(0, 14 if is_main else 7)
        nodes = self.nodes(list(zip(names, shapes)), body, 1, many)
        self.elders.append((name, shapes, body))
        self.main_shapes = dict(zip(names, shapes))
        return ("piece", name, tuple(names), None if body is None else len(body), nodes)

    def nodes(self, bound, body, depth, many):
        made = []
        for _ in range(many):
            node = self.node(bound, body, depth)
            if node and not (made and made[-1][0] == node[0] == "text"):
                made.append(node)
        return tuple(made)

    def inner(self, bound, body, depth):
        return self.nodes(bound, body, depth + 1, self.random.randint(0, 5)) if depth < 5 else ()

    def path(self, bound, kinds):
        """A path to something of one of these kinds; now and then any path, or one that leads nowhere."""
        paths = paths_of(bound)
        fitting = [row for row in paths if kind_of(row[1]) in kinds or row[1] in kinds]
        if paths and self.chance(self.faults):
            row = self.random.choice(paths)
            return (row[0][:3] + ("nowhere",), row[1]) if self.chance(0.5) else row
        return self.random.choice(fitting) if fitting else None

    def node(self, bound, body, depth):
        kind = self.random.choice(("text", "place", "place", "loop", "loop", "choice", "use", "use", "body", "body"))
        if kind == "text":
            return ("text", "".join(self.random.choices(TEXTS, k=self.random.randint(1, 3))))
        if kind == "place":
            return self.place(bound)
        if kind == "loop":
            return self.loop(bound, body, depth)
        if kind == "choice":
            row = self.path(bound, ("truth",))
            return row and ("choice", row[0], self.inner(bound, body, depth), self.inner(bound, body, depth))
        if kind == "use":
            return self.use(bound, body, depth)
        rows = None if body is None else [self.path(bound, (shape,)) for shape in body]
        return None if rows is None or None in rows else ("body", tuple(row[0] for row in rows))

    def place(self, bound):
        row = self.path(bound, ("word", "text", "number"))
        if not row:
            return None
        ways = WAYS if self.chance(self.faults) else FITTING[kind_of(row[1])] or WAYS
        return ("place", row[0], self.random.choice(ways))

    def loop(self, bound, body, depth):
        row = self.path(bound, ("list",))
        if not row:
            return None
        name = self.random.choice(NAMES)
        shape = row[1][1] if kind_of(row[1]) == "list" else "text"
        nodes = self.inner(bound + [(name, shape)], body, depth)
        return ("loop", name, row[0], nodes, self.random.choice(("", ", ", "\n", "{")))

    def use(self, bound, body, depth):
        if not self.elders:
            return None
        name, shapes, used = self.random.choice(self.elders)
        rows = [self.path(bound, (shape,)) for shape in shapes]
        if None in rows:
            return None
        paths = tuple(row[0] for row in rows)
        if used is None:
            return ("use", name, paths, None, None)
        names = tuple(self.random.sample(NAMES, len(used)))
        return ("use", name, paths, names, self.inner(bound + list(zip(names, used)), body, depth))

    def values(self):
        return {name: self.value(shape) for name, shape in self.main_shapes.items()}

    def value(self, shape):
        if self.chance(self.faults / 2):
            return self.random.choice(("x", 7, True, [], {}))
        kind = kind_of(shape)
        if kind == "word":
            return self.random.choice(("a", "Zeta", "x1", "007"))
        if kind == "text":
            return self.random.choice(VALUE_TEXTS)
        if kind == "number":
            return self.random.choice((0, 1, -1, 42, 10 ** 29, -(10 ** 30) + 1))
        if kind == "truth":
            return self.chance(0.5)
        if kind == "list":
            return [self.value(shape[1]) for _ in range(self.random.randint(0, 3))]
        return {field: self.value(inner) for field, inner in shape[1] if not self.chance(self.faults / 2)}


def good_books(many, faults=0.02):
    """So many good books with values for them, as tuples (number, book, values)."""
    made = []
    seed = 0
    while len(made) < many:
        maker = GoodMaker(seed, faults)
        book = maker.book()
        try:
            need_book(book)
            made.append((seed, book, maker.values()))
        except TooMany:
            pass
        seed += 1
    return made


class FormMaker:
    """Makes flat forms, and fills of them."""

    FORM_TEXTS = ("a", "b;", ", ", "<", ">", "\n", "|", "-", "7", "end\n", "&", "{x}", "~", '"')

    def __init__(self, seed, texts=FORM_TEXTS):
        self.random = random.Random(seed)
        self.texts = texts
        self.loops = 0

    def form(self):
        return self.nodes(1, self.random.randint(1, 6), ("x1", "y"))

    def nodes(self, depth, many, names):
        made = []
        for _ in range(many):
            node = self.node(depth, names)
            if not (made and made[-1][0] == node[0] == "text"):
                made.append(node)
        return tuple(made)

    def inner(self, depth, names):
        return self.nodes(depth + 1, self.random.randint(0, 4), names) if depth < 4 else ()

    def path(self, names):
        return (self.random.choice(names),) + tuple(self.random.choices(("f", "g2"), k=self.random.randint(0, 5)))

    def node(self, depth, names):
        kind = self.random.choice(("text", "text", "text", "place", "loop", "choice"))
        if kind == "text":
            return ("text", self.random.choice(self.texts))
        if kind == "place":
            return ("place", self.path(names), self.random.choice(WAYS))
        if kind == "choice":
            return ("choice", self.path(names), self.inner(depth, names), self.inner(depth, names))
        name = f"v{self.loops}"
        self.loops += 1
        between = self.random.choice(("", "", ", ", "\n", ";", "<"))
        return ("loop", name, self.path(names), self.inner(depth, names + (name,)), between)

    def fill(self, nodes):
        return [self.filling(node) for node in nodes if node[0] != "text"]

    def filling(self, node):
        if node[0] == "place":
            return self.value(node[2])
        if node[0] == "loop":
            return [self.fill(node[3]) for _ in range(self.random.choice((0, 1, 2, 3)))]
        truth = self.random.random() < 0.5
        return (truth, self.fill(node[2] if truth else node[3]))

    def value(self, way):
        if way == "word":
            return self.random.choice(("a", "Zeta", "x1", "007"))
        if way == "number":
            return self.random.choice((0, 1, -1, 42, -7))
        return self.random.choice(VALUE_TEXTS)


def renamed(book):
    """The book with all names called otherwise, but those of main's own names and of fields."""
    called = {piece[1]: f"q{letters(number)}" for number, piece in enumerate(book)}
    pieces = []
    for piece in book:
        is_main = piece == book[-1]
        names = piece[2] if is_main else tuple(f"n{letters(k)}" for k in range(len(piece[2])))
        nodes = renamed_nodes(piece[4], dict(zip(piece[2], names)), called, 0)
        pieces.append(("piece", called[piece[1]], names, piece[3], nodes))
    return tuple(pieces)


def letters(number):
    return chr(ord("a") + number // 26) + chr(ord("a") + number % 26)


def renamed_nodes(nodes, names, called, depth):
    return tuple(renamed_node(node, names, called, depth) for node in nodes)


def renamed_node(node, names, called, depth):
    def path(old):
        return (names[old[0]],) + old[1:]

    if node[0] == "text":
        return node
    if node[0] == "place":
        return ("place", path(node[1]), node[2])
    if node[0] == "loop":
        name = f"l{letters(depth)}"
        inner = renamed_nodes(node[3], dict(names, **{node[1]: name}), called, depth + 1)
        return ("loop", name, path(node[2]), inner, node[4])
    if node[0] == "choice":
        sides = [renamed_nodes(side, names, called, depth) for side in node[2:]]
        return ("choice", path(node[1]), sides[0], sides[1])
    if node[0] == "body":
        return ("body", tuple(map(path, node[1])))
    paths = tuple(map(path, node[2]))
    if node[3] is None:
        return ("use", called[node[1]], paths, None, None)
    new = tuple(f"b{letters(depth)}{letters(k)}" for k in range(len(node[3])))
    inner = renamed_nodes(node[4], dict(names, **dict(zip(node[3], new))), called, depth + 1)
    return ("use", called[node[1]], paths, new, inner)
