"""Shortening: a program that comes to the same outcome with fewer rows.

While a block is worked on, each of its rows is a tuple of the row and of the
number of the row to which it jumps, or None.
"""


def shortened(program):
    done = {}
    waiting = list(range(len(program)))
    while waiting:
        ready = [number for number in waiting if is_ready(program[number], done)]
        # Blocks that use one another in a ring are never ready; they keep those uses.
        for number in ready or waiting:
            done[number] = shortened_block(program[number], done)
        waiting = [number for number in waiting if number not in done]
    return tuple([done[number] for number in range(len(program))])


def is_ready(block, done):
    return all([row[1] in done for row in block if row[0] == "use"])


def shortened_block(block, done):
    rows = [(row, target_of(row, place)) for place, row in enumerate(block)]
    return with_jumps(with_writes_joined(without_small_uses(rows, done)))


def target_of(row, place):
    if row[0] == "round":
        return place + 1 + row[2]
    if row[0] == "unless" or row[0] == "skip":
        return place + 1 + row[1]
    if row[0] == "again":
        return place - row[1]
    return None


def without_small_uses(rows, done):
    gone = gone_for_uses(rows, done)
    kept = []
    moved = {}
    for place, row in enumerate(rows):
        moved[place] = len(kept)
        if place not in gone:
            kept.append(row)
        elif is_small_use(row[0], done):
            kept.extend([(write, None) for write in writes_of(done[row[0][1]])])
    return with_targets(kept, moved)


def gone_for_uses(rows, done):
    gone = {}
    for place, row in enumerate(rows):
        if is_small_use(row[0], done):
            for number in range(first_of_use(rows, place), place + 1):
                gone[number] = True
    return gone


def is_small_use(row, done):
    return row[0] == "use" and row[1] in done and is_small(done[row[1]])


def is_small(block):
    return len(block) == 1 or len(block) == 2 and block[0][0] == "write"


def writes_of(block):
    return block[:-1]


def first_of_use(rows, place):
    # Each path begins with its load.
    paths = rows[place][0][2]
    while paths > 0:
        place = place - 1
        if rows[place][0][0] == "load":
            paths = paths - 1
    return place


def with_targets(rows, moved):
    return [(row[0], None if row[1] is None else moved[row[1]]) for row in rows]


def with_writes_joined(rows):
    targets = {}
    for row in rows:
        targets[row[1]] = True
    kept = []
    moved = {}
    for place, row in enumerate(rows):
        if row[0][0] == "write" and kept and kept[-1][0][0] == "write" and place not in targets:
            kept[-1] = (("write", kept[-1][0][1] + row[0][1]), None)
        else:
            moved[place] = len(kept)
            kept.append(row)
    return with_targets(kept, moved)


def with_jumps(rows):
    return tuple([with_jump(row[0], row[1], place) for place, row in enumerate(rows)])


def with_jump(row, target, place):
    if row[0] == "round":
        return ("round", row[1], target - place - 1, row[3])
    if row[0] == "unless" or row[0] == "skip":
        return (row[0], target - place - 1)
    if row[0] == "again":
        return ("again", place - target)
    return row
