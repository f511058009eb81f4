"""Reading back: of a clear form and a text, the fill by which the text is spelt."""

from formsmith.clear import TEXT_END, beginnings, behind_rounds, followers
from formsmith.errors import NoFill
from formsmith.firsts import begins
from formsmith.signs import is_text
from formsmith.ways import way_of


def read_back(form, text):
    if not isinstance(text, str) or not is_text(text, len(text)):
        raise NoFill(None)
    reader = BackReader(text)
    fill = reader.read_nodes(prepared_nodes(form, TEXT_END))
    if reader.at < len(text):
        raise NoFill(reader.at)
    return fill


# Beginnings are found once for each node, not once for each round in which it is read.
def prepared_nodes(nodes, behind):
    follows = followers(nodes, behind)
    return [prepared(node, follows[place]) for place, node in enumerate(nodes)]


def prepared(node, follow):
    if node[0] == "place":
        return ("place", way_of(node[2]))
    if node[0] == "loop":
        inner = prepared_nodes(node[3], behind_rounds(node, follow))
        return ("loop", begins(node[3])[0], inner, node[4])
    if node[0] == "choice":
        yes = (beginnings(node[2], follow), prepared_nodes(node[2], follow))
        no = (beginnings(node[3], follow), prepared_nodes(node[3], follow))
        return ("choice", yes, no)
    return node


class BackReader:

    def __init__(self, text):
        self.text = text
        self.at = 0

    def stands_at(self, allowed):
        return self.at < len(self.text) and self.text[self.at] in allowed

    def read_nodes(self, nodes):
        fill = []
        for node in nodes:
            if node[0] == "text":
                self.read_text(node[1])
            elif node[0] == "place":
                fill.append(self.read_place(node[1]))
            elif node[0] == "loop":
                fill.append(self.read_rounds(node[1], node[2], node[3]))
            else:
                fill.append(self.read_choice(node[1], node[2]))
        return fill

    def read_text(self, text):
        for sign in text:
            if not self.stands_at(sign):
                raise NoFill(self.at)
            self.at = self.at + 1

    def read_place(self, way):
        told = way.read(self.text, self.at)
        if told is None:
            raise NoFill(self.at)
        self.at = told[1]
        return told[0]

    def read_rounds(self, starts, nodes, between):
        fills = []
        goes_on = self.stands_at(starts)
        while goes_on:
            fills.append(self.read_nodes(nodes))
            goes_on = self.stands_at(between[:1] if between else starts)
            if goes_on:
                self.read_text(between)
        return fills

    def read_choice(self, yes, no):
        if self.is_among(yes[0]):
            return (True, self.read_nodes(yes[1]))
        if self.is_among(no[0]):
            return (False, self.read_nodes(no[1]))
        raise NoFill(self.at)

    def is_among(self, starts):
        if self.at == len(self.text):
            return starts[1]
        return self.stands_at(starts[0])
