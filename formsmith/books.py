"""Books as texts: reading the text of a book into its pieces and nodes."""

from formsmith.commands import command_of
from formsmith.errors import BadText
from formsmith.signs import is_text

MOST_BOOK_SIGNS = 4000
MOST_PIECES = 8
MOST_NODES = 200
MOST_NODE_DEPTH = 8
MOST_PIECE_NAMES = 4
MOST_USE_PATHS = 4
MOST_BODY_NAMES = 3

BRACES = {"open": "{", "close": "}"}
BLANKS = " \n"


def read(text):
    if not is_text(text, MOST_BOOK_SIGNS):
        raise BadText(None)
    shelf = Shelf()
    at = 0
    while at < len(text):
        if text[at] == "{":
            at = read_command(shelf, text, at)
        elif text[at] == "}":
            raise BadText(at)
        else:
            shelf.take_text(text[at], at)
            at = at + 1
    if shelf.is_open() or not shelf.pieces:
        raise BadText(len(text))
    return tuple(shelf.pieces)


def read_command(shelf, text, at):
    closing = text.find("}", at)
    if closing < 0:
        raise BadText(at)
    command = command_of(text[at + 1:closing])
    if command is None or has_too_many(command):
        raise BadText(at)
    shelf.take_command(command, at)
    return closing + 1


def has_too_many(command):
    if command[0] == "piece":
        return len(command[2]) > MOST_PIECE_NAMES
    if command[0] == "use":
        names = command[3]
        return len(command[2]) > MOST_USE_PATHS or names is not None and len(names) > MOST_BODY_NAMES
    if command[0] == "body":
        return len(command[1]) > MOST_BODY_NAMES
    return False


# Something that is open: its command, and what was read behind it till now.
class Opened:

    def __init__(self, command):
        self.command = command
        self.nodes = []
        self.yes = None
        self.between = None

    def finished(self):
        kind = self.command[0]
        nodes = tuple(self.nodes)
        if kind == "for":
            return ("loop", self.command[1], self.command[2], nodes, self.between or "")
        if kind == "if" and self.yes is None:
            return ("choice", self.command[1], nodes, ())
        if kind == "if":
            return ("choice", self.command[1], self.yes, nodes)
        return self.command + (nodes,)


class Shelf:

    def __init__(self):
        self.pieces = []
        self.opened = []
        self.counted = 0

    def is_open(self):
        return len(self.opened) > 0

    def take_text(self, text, at):
        if self.is_open():
            self.add_text(text, at)
        elif text not in BLANKS:
            raise BadText(at)

    def add_text(self, text, at):
        inmost = self.opened[-1]
        if inmost.between is not None:
            inmost.between = inmost.between + text
        elif inmost.nodes and inmost.nodes[-1][0] == "text":
            inmost.nodes[-1] = ("text", inmost.nodes[-1][1] + text)
        else:
            self.count_node(at)
            inmost.nodes.append(("text", text))

    def count_node(self, at):
        self.counted = self.counted + 1
        if self.counted > MOST_NODES or len(self.opened) > MOST_NODE_DEPTH:
            raise BadText(at)

    def take_command(self, command, at):
        kind = command[0]
        if kind == "piece":
            self.take_piece(command, at)
        elif not self.is_open():
            raise BadText(at)
        elif kind in BRACES:
            self.add_text(BRACES[kind], at)
        elif kind == "end":
            self.take_end()
        elif kind == "else":
            self.take_else(at)
        elif kind == "between":
            self.take_between(at)
        else:
            self.take_node(command, at)

    def take_piece(self, command, at):
        if self.is_open() or len(self.pieces) == MOST_PIECES:
            raise BadText(at)
        self.opened.append(Opened(command))

    def take_end(self):
        finished = self.opened.pop().finished()
        if self.is_open():
            self.opened[-1].nodes.append(finished)
        else:
            self.pieces.append(finished)

    def take_else(self, at):
        inmost = self.opened[-1]
        if inmost.command[0] != "if" or inmost.yes is not None:
            raise BadText(at)
        inmost.yes = tuple(inmost.nodes)
        inmost.nodes = []

    def take_between(self, at):
        inmost = self.opened[-1]
        if inmost.command[0] != "for" or inmost.between is not None:
            raise BadText(at)
        inmost.between = ""

    def take_node(self, command, at):
        if self.opened[-1].between is not None:
            raise BadText(at)
        self.count_node(at)
        if command[0] in ("for", "if") or command[0] == "use" and command[3] is not None:
            self.opened.append(Opened(command))
        elif command[0] == "use":
            self.opened[-1].nodes.append(command + (None,))
        else:
            self.opened[-1].nodes.append(command)
