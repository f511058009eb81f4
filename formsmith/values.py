"""Values: what they are, where fields lead in them, and those handed in by names."""

from formsmith.errors import BadValues
from formsmith.signs import is_name, is_text

MOST_SIGNS = 400
MOST_THINGS = 40
MOST_FIELDS = 8
MOST_DEPTH = 6


def is_value(thing):
    return is_value_within(thing, MOST_DEPTH)


def is_value_within(thing, depth):
    # Going no deeper than this lets things of any depth be handed in.
    if depth < 1:
        return False
    # Truths come first: Python counts them among the whole numbers.
    if isinstance(thing, bool):
        return True
    if isinstance(thing, int):
        return is_short_number(thing)
    if isinstance(thing, list):
        return len(thing) <= MOST_THINGS and are_values_within(thing, depth - 1)
    if isinstance(thing, dict):
        return is_record_within(thing, depth)
    return is_text(thing, MOST_SIGNS)


def is_short_number(number):
    # The bound is the least number of 31 figures; a sign ahead is no figure.
    return abs(number) < 10 ** 30


def is_record_within(record, depth):
    if len(record) > MOST_FIELDS:
        return False
    for field in record:
        if not is_name(field):
            return False
    return are_values_within(list(record.values()), depth - 1)


def are_values_within(things, depth):
    for thing in things:
        if not is_value_within(thing, depth):
            return False
    return True


def looked_up(value, fields):
    # A copy, so that what is told stays as it is when the value is changed later.
    return tuple([copied(thing) for thing in found(value, fields)])


def found(value, fields):
    # The very thing, for those who only look at it: copying a large one takes long.
    here = value
    for field in fields:
        if not isinstance(here, dict) or field not in here:
            return ()
        here = here[field]
    return (here,)


def copied(value):
    if isinstance(value, list):
        return [copied(thing) for thing in value]
    if isinstance(value, dict):
        record = {}
        for field in value:
            record[field] = copied(value[field])
        return record
    return value


def need_values(names, values):
    if not isinstance(values, dict):
        raise BadValues("the values are no dict")
    for name in names:
        if name not in values:
            raise BadValues("a name has no value")
    for name in values:
        if name not in names:
            raise BadValues("there is a value for no name")
        if not is_value(values[name]):
            raise BadValues("what a name has is no value")
