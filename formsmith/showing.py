"""Showing a book as the text of which it is read."""


def shown(book):
    return "".join([shown_piece(piece) for piece in book])


def shown_piece(piece):
    names = ", ".join(piece[2])
    body = "" if piece[3] is None else " body " + str(piece[3])
    head = shown_command("piece " + piece[1] + "(" + names + ")" + body)
    return head + shown_nodes(piece[4]) + "{end}"


def shown_command(words):
    return "{" + words + "}"


def shown_nodes(nodes):
    return "".join([shown_node(node) for node in nodes])


def shown_node(node):
    kind = node[0]
    if kind == "text":
        return shown_text(node[1])
    if kind == "place":
        return shown_place(node)
    if kind == "loop":
        return shown_loop(node)
    if kind == "choice":
        return shown_choice(node)
    if kind == "use":
        return shown_use(node)
    return shown_command("body(" + shown_paths(node[1]) + ")")


def shown_text(text):
    return "".join([shown_sign(sign) for sign in text])


def shown_sign(sign):
    if sign == "{":
        return "{(}"
    if sign == "}":
        return "{)}"
    return sign


def shown_place(node):
    path = shown_path(node[1])
    return shown_command(path if node[2] == "plain" else path + " as " + node[2])


def shown_loop(node):
    head = shown_command("for " + node[1] + " in " + shown_path(node[2]))
    between = "{between}" + shown_text(node[4]) if node[4] else ""
    return head + shown_nodes(node[3]) + between + "{end}"


def shown_choice(node):
    head = shown_command("if " + shown_path(node[1]))
    no = "{else}" + shown_nodes(node[3]) if node[3] else ""
    return head + shown_nodes(node[2]) + no + "{end}"


def shown_use(node):
    words = "use " + node[1] + "(" + shown_paths(node[2]) + ")"
    if node[3] is None:
        return shown_command(words)
    return shown_command(words + " with " + ", ".join(node[3])) + shown_nodes(node[4]) + "{end}"


def shown_path(path):
    return ".".join(path)


def shown_paths(paths):
    return ", ".join([shown_path(path) for path in paths])
