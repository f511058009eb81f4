"""Commands: what stands between two braces of a book's text."""

from formsmith.signs import is_name, is_path

BARE = {"(": "open", ")": "close", "end": "end", "else": "else", "between": "between"}
WAYS = ("word", "number", "quoted", "plain", "line")
MANIES = ("0", "1", "2", "3")


def command_of(text):
    if text in BARE:
        return (BARE[text],)
    if text.startswith("for "):
        return for_command(text[len("for "):])
    if text.startswith("if "):
        return if_command(text[len("if "):])
    if text.startswith("use "):
        return use_command(bracketed(text[len("use "):]))
    if text.startswith("body("):
        return body_command(bracketed(text))
    if text.startswith("piece "):
        return piece_command(bracketed(text[len("piece "):]))
    return place_command(text)


def place_command(text):
    parts = text.partition(" as ")
    path = path_of(parts[0])
    way = parts[2] if parts[1] else "plain"
    if path is None or way not in WAYS:
        return None
    return ("place", path, way)


def for_command(text):
    parts = text.partition(" in ")
    path = path_of(parts[2])
    if not is_name(parts[0]) or path is None:
        return None
    return ("for", parts[0], path)


def if_command(text):
    path = path_of(text)
    if path is None:
        return None
    return ("if", path)


def use_command(parts):
    if parts is None or not is_name(parts[0]):
        return None
    paths = paths_of(parts[1])
    if paths is None:
        return None
    if parts[2] == "":
        return ("use", parts[0], paths, None)
    if not parts[2].startswith(" with "):
        return None
    names = names_of(parts[2][len(" with "):])
    if names is None:
        return None
    return ("use", parts[0], paths, names)


def body_command(parts):
    if parts is None or parts[2] != "":
        return None
    paths = paths_of(parts[1])
    if paths is None:
        return None
    return ("body", paths)


def piece_command(parts):
    if parts is None or not is_name(parts[0]):
        return None
    names = names_of(parts[1])
    if names is None:
        return None
    if parts[2] == "":
        return ("piece", parts[0], names, None)
    many = parts[2][len(" body "):]
    if not parts[2].startswith(" body ") or many not in MANIES:
        return None
    return ("piece", parts[0], names, int(many))


def bracketed(text):
    # What stands ahead of the brackets, within and behind them; None without both.
    opening = text.find("(")
    closing = text.find(")")
    if not 0 <= opening < closing:
        return None
    return (text[:opening], text[opening + 1:closing], text[closing + 1:])


def path_of(text):
    path = tuple(text.split("."))
    return path if is_path(path) else None


def names_of(text):
    names = listed(text)
    return names if all([is_name(name) for name in names]) else None


def paths_of(text):
    paths = tuple([path_of(part) for part in listed(text)])
    return None if None in paths else paths


def listed(text):
    # Splitting the empty text would tell one empty part, but nothing there means none.
    return tuple(text.split(", ")) if text else ()
