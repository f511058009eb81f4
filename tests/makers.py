"""Makes books, values and forms for the tests: the same ones each time, each by its number."""

import random

WAYS = ("word", "number", "quoted", "plain", "line")
TEXTS = ("a", "b ", ", ", "{", "}", "<", ">", "\n", "~", "^", '"', "-", "7", "|x|", "{x}", "...", "&", "{(}")
NAMES = ("x", "y", "z", "name", "abcdefgh")


class LooseMaker:
    """Makes books as point [8] tells them, whatever their names mean."""

    def __init__(self, seed):
        self.random = random.Random(seed)
        self.left = 200

    def book(self):
        return tuple(self.piece() for _ in range(self.random.randint(1, 8)))

    def piece(self):
        many = self.random.choice((None, 0, 1, 2, 3))
        nodes = self.nodes(1, self.random.randint(0, 7))
        return ("piece", self.name(), self.names(4), many, nodes)

    def name(self):
        return self.random.choice(NAMES)

    def names(self, most):
        return tuple(self.name() for _ in range(self.random.randint(0, most)))

    def path(self):
        return tuple(self.name() for _ in range(self.random.randint(1, 4)))

    def paths(self, most):
        return tuple(self.path() for _ in range(self.random.randint(0, most)))

    def nodes(self, depth, many):
        made = []
        for _ in range(many):
            if self.left and depth <= 8:
                self.left -= 1
                node = self.node(depth)
                if not (made and made[-1][0] == node[0] == "text"):
                    made.append(node)
        return tuple(made)

    def inner(self, depth):
        return self.nodes(depth + 1, self.random.randint(0, 3))

    def node(self, depth):
        kind = self.random.choice(("text", "text", "place", "loop", "choice", "use", "with", "body"))
        if kind == "text":
            return ("text", "".join(self.random.choices(TEXTS, k=self.random.randint(1, 3))))
        if kind == "place":
            return ("place", self.path(), self.random.choice(WAYS))
        if kind == "loop":
            between = self.random.choice(("", "", ", ", "{", "}", "\n"))
            return ("loop", self.name(), self.path(), self.inner(depth), between)
        if kind == "choice":
            return ("choice", self.path(), self.inner(depth), self.inner(depth))
        if kind == "use":
            return ("use", self.name(), self.paths(4), None, None)
        if kind == "with":
            return ("use", self.name(), self.paths(4), self.names(3), self.inner(depth))
        return ("body", self.paths(3))
