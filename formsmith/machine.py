"""The machine: does a program's rows, one at a time.

A body that is handed on is a tuple of the number of its block, its slots, and
the body of the frame that used it.
"""

from formsmith.pens import Pen, Refused
from formsmith.values import copied


def run(program, main, values):
    machine = Machine(program, main, values)
    while machine.step():
        pass
    return machine.outcome()


class Frame:

    def __init__(self, block, slots, body):
        self.block = block
        self.slots = slots
        self.body = body
        self.place = 0
        self.walks = []


# A list that is walked, and how many of its things were taken.
class Walk:

    def __init__(self, things):
        self.things = things
        self.taken = 0


class Machine:

    def __init__(self, program, main, values):
        self.program = program
        self.pen = Pen()
        # Copies, so that nothing that is done to the values later is seen.
        slots = [(copied(value),) for value in values]
        self.frames = [Frame(program[main], slots_from(slots), None)]
        self.stack = []
        self.done = 0
        self.result = None

    def outcome(self):
        return self.result

    def steps(self):
        return self.done

    def depth(self):
        return len(self.frames)

    def step(self):
        if self.result is not None:
            return False
        frame = self.frames[-1]
        row = frame.block[frame.place]
        frame.place = frame.place + 1
        self.done = self.done + 1
        try:
            self.do_row(row, frame)
        except Refused as refusal:
            self.result = self.pen.outcome_refused(refusal.word)
        if not self.frames:
            self.result = self.pen.outcome_written()
        return True

    def do_row(self, row, frame):
        kind = row[0]
        if kind == "write":
            self.pen.write(row[1])
        elif kind == "load":
            self.stack.append(frame.slots[row[1]])
        elif kind == "field":
            self.stack.append(self.stack.pop() + (row[1],))
        elif kind == "put":
            self.pen.put(self.stack.pop(), row[1])
        elif kind in ("use", "body", "back"):
            self.do_frames(row, frame)
        else:
            self.do_ways(row, frame)

    def do_ways(self, row, frame):
        # These rows tell where in the frame's block it goes on.
        kind = row[0]
        if kind == "walk":
            frame.walks.append(Walk(self.pen.list_wanted(self.stack.pop())))
        elif kind == "round":
            self.do_round(row, frame)
        elif kind == "again":
            # The place is behind the row already.
            frame.place = frame.place - 1 - row[1]
        elif kind == "skip":
            frame.place = frame.place + row[1]
        elif not self.pen.truth_wanted(self.stack.pop()):
            frame.place = frame.place + row[1]

    def do_round(self, row, frame):
        walk = frame.walks[-1]
        if walk.taken == len(walk.things):
            frame.walks.pop()
            frame.place = frame.place + row[2]
            return
        self.pen.begin_round(walk.taken, row[3])
        frame.slots[row[1]] = (walk.things[walk.taken],)
        walk.taken = walk.taken + 1

    def do_frames(self, row, frame):
        if row[0] == "use":
            body = None if row[3] is None else (row[3], slots_below(frame.slots, row[4]), frame.body)
            self.begin_frame(row[1], self.taken_off(row[2]), body)
        elif row[0] == "body":
            body = frame.body
            self.begin_frame(body[0], body[1] + self.taken_off(row[1]), body[2])
        else:
            self.frames.pop()

    def begin_frame(self, block, references, body):
        self.frames.append(Frame(self.program[block], slots_from(references), body))

    def taken_off(self, many):
        taken = []
        while len(taken) < many:
            taken.append(self.stack.pop())
        # The lowest one comes first.
        return list(reversed(taken))


def slots_from(references):
    # By number, since slots of loops come and go in any order.
    slots = {}
    for number, reference in enumerate(references):
        slots[number] = reference
    return slots


def slots_below(slots, bound):
    return [slots[number] for number in range(bound)]
