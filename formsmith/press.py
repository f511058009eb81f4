"""The press: of a book's text, what it writes by each of the ways, and what it reads back."""

from formsmith.back import read_back
from formsmith.books import read
from formsmith.clear import unclear
from formsmith.compiling import compiled
from formsmith.errors import BadWay, Unclear
from formsmith.flats import flat_written
from formsmith.gather import gathered
from formsmith.joined import joined
from formsmith.machine import run
from formsmith.scopes import need_book
from formsmith.shortening import shortened
from formsmith.values import need_values
from formsmith.writing import written

WAYS = ("tree", "form", "rows", "short")


def checked(text):
    book = read(text)
    need_book(book)
    form = joined(book)
    return (book, form, unclear(form))


def press(text, values, way="tree"):
    if way not in WAYS:
        raise BadWay("there is no such way")
    book = read(text)
    names = need_book(book)
    need_values(names, values)
    if way == "tree":
        return written(book, values)
    if way == "form":
        return flat_written(joined(book), values)
    program = compiled(book)
    if way == "short":
        program = shortened(program)
    return run(program, len(book) - 1, [values[name] for name in names])


def pressed_back(text, output):
    told = checked(text)
    form = told[1]
    if told[2] is not None:
        raise Unclear(told[2])
    fill = read_back(form, output)
    return (fill, gathered(form, fill))
