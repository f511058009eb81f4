"""Names: what is bound where in a book, how large it is with all put in, and what names stand for.

A scope is a tuple of what each name stands for and of the body that was
handed to the piece: None, or a tuple of its names, its nodes and the scope of
its use. What a name stands for is a tuple behind which fields are put: a
path, or a thing and fields.
"""

from formsmith.errors import BadName, TooMany

MOST_PUT_IN = 400
MOST_PUT_IN_DEPTH = 24

# What no nodes come to: how many, how deep, how many bodies, and how deep these.
NOTHING = (0, 0, 0, 0)


def need_book(book):
    need_names(book)
    size = sized(book)
    if size[0] > MOST_PUT_IN or size[1] > MOST_PUT_IN_DEPTH:
        raise TooMany("the book is too large with all put in")
    return book[-1][2]


def need_names(book):
    elders = {}
    for number, piece in enumerate(book):
        is_main = number == len(book) - 1
        if piece[1] in elders or has_twice(piece[2]) or is_main and piece[3] is not None:
            raise BadName((number,))
        need_nodes(piece[4], (number,), piece[2], piece[3], elders)
        elders[piece[1]] = piece


def need_nodes(nodes, way, names, many, elders):
    for place, node in enumerate(nodes):
        at = way + (place,)
        if is_wrong(node, names, many, elders):
            raise BadName(at)
        for part in parts_within(node):
            need_nodes(part[2], at + part[0], names + part[1], many, elders)


def parts_within(node):
    # Of each row of nodes within: the way to it, the names bound in it, and the nodes.
    if node[0] == "loop":
        return [((), (node[1],), node[3])]
    if node[0] == "choice":
        return [((0,), (), node[2]), ((1,), (), node[3])]
    if node[0] == "use" and node[4] is not None:
        return [((), node[3], node[4])]
    return []


def is_wrong(node, names, many, elders):
    for path in paths_in(node):
        if path[0] not in names:
            return True
    if node[0] == "use":
        return node[1] not in elders or is_wrong_use(node, elders[node[1]])
    if node[0] == "body":
        return many is None or len(node[1]) != many
    return False


def paths_in(node):
    if node[0] == "text":
        return ()
    if node[0] == "loop":
        return (node[2],)
    if node[0] == "use":
        return node[2]
    if node[0] == "body":
        return node[1]
    return (node[1],)


def is_wrong_use(node, piece):
    if len(node[2]) != len(piece[2]):
        return True
    if piece[3] is None or node[3] is None:
        return piece[3] is not None or node[3] is not None
    return len(node[3]) != piece[3] or has_twice(node[3])


def has_twice(names):
    return len(set(names)) < len(names)


def bound(book, at):
    piece = book[at[0]]
    names = piece[2]
    nodes = piece[4]
    rest = at[1:]
    while len(rest) > 1:
        parts = parts_within(nodes[rest[0]])
        # A choice has two rows of nodes, so its way is one step longer.
        part = parts[rest[1]] if len(parts) == 2 else parts[0]
        names = names + part[1]
        nodes = part[2]
        rest = rest[len(parts):]
    return names


def sized(book):
    # Sizes are reckoned, not walked: what is put in may be very much more than the book.
    sizes = {}
    for piece in book:
        sizes[piece[1]] = size_of_nodes(piece[4], sizes)
    main = sizes[book[-1][1]]
    return (main[0], main[1])


def size_of_nodes(nodes, sizes):
    whole = NOTHING
    for node in nodes:
        whole = side_by_side(whole, size_of_node(node, sizes))
    return whole


def side_by_side(one, other):
    return (one[0] + other[0], max(one[1], other[1]), one[2] + other[2], max(one[3], other[3]))


def size_of_node(node, sizes):
    if node[0] == "loop":
        return size_within(size_of_nodes(node[3], sizes))
    if node[0] == "choice":
        return size_within(size_of_nodes(node[2] + node[3], sizes))
    if node[0] == "use":
        return size_within(size_of_use(node, sizes))
    if node[0] == "body":
        return (1, 1, 1, 1)
    return (1, 1, 0, 0)


def size_within(inner):
    body_depth = inner[3] + 1 if inner[2] else 0
    return (inner[0] + 1, inner[1] + 1, inner[2], body_depth)


def size_of_use(node, sizes):
    piece = sizes[node[1]]
    many = piece[2]
    if node[4] is None or many == 0:
        return (piece[0], piece[1], 0, 0)
    body = size_of_nodes(node[4], sizes)
    body_depth = piece[3] + body[3] if body[2] else 0
    return (piece[0] + many * body[0], max(piece[1], piece[3] + body[1]), many * body[2], body_depth)


def stood_for(path, scope):
    return scope[0][path[0]] + path[1:]


def scope_in_loop(name, meaning, scope):
    meanings = dict(scope[0])
    meanings[name] = meaning
    return (meanings, scope[1])


def scope_in_use(use, piece, scope):
    body = None if use[4] is None else (use[3], use[4], scope)
    return (with_handed_in({}, piece[2], use[2], scope), body)


def scope_in_body(paths, scope):
    body = scope[1]
    user = body[2]
    return (with_handed_in(dict(user[0]), body[0], paths, scope), user[1])


def with_handed_in(meanings, names, paths, scope):
    for name, path in zip(names, paths):
        meanings[name] = stood_for(path, scope)
    return meanings
