"""The interface: a list of calls on one new object is answered."""

from keptready.holder import Holder, refusal

LOAD = 0
KEEP = 1
PUT = 2
TAKE = 3
REFRESH = 4
AGES = 5
READ = 6
TOGETHER = 7
# What stands behind each call's number, in order: a number, or a list with its length before it.
SHAPES = {
    0: ("list",), 1: ("list",), 2: ("number", "list"), 3: ("number",), 4: ("number",),
    5: (), 6: ("number", "number"), 7: (), 8: ("number", "number"),
}
NO_TABLE = 1


class CallReader:
    """Goes through the numbers of the calls, one call behind another."""

    def __init__(self, calls):
        self.calls = calls
        self.position = 0

    def has_more(self):
        return self.position < len(self.calls)

    def read_number(self):
        number = self.calls[self.position]
        self.position += 1
        return number

    def read_list(self):
        how_many = self.read_number()
        start = self.position
        self.position = start + how_many
        return self.calls[start:self.position]

    def read_given(self, call):
        """What is handed to the call."""
        given = []
        for part in SHAPES[call]:
            given.append(self.read_list() if part == "list" else self.read_number())
        return given


def answer_of(holder, call, given):
    if call == LOAD:
        return holder.load(given[0])
    if holder.table is None:
        return refusal(NO_TABLE)
    if call == KEEP:
        return holder.keep(given[0])
    if call == PUT:
        return holder.put(given[0], given[1])
    if call == TAKE:
        return holder.take(given[0])
    if call == REFRESH:
        return holder.refresh(given[0])
    if call == AGES:
        return holder.ages()
    if call == READ:
        return holder.read(given[0], given[1])
    if call == TOGETHER:
        return holder.together()
    # What is left is was: a call without a shape has not come as far as here.
    return holder.was(given[0], given[1])


def answers(calls):
    """For each call, in order: how many numbers are answered, and these numbers."""
    reader = CallReader(calls)
    holder = Holder()
    told = []
    while reader.has_more():
        call = reader.read_number()
        answer = answer_of(holder, call, reader.read_given(call))
        told.append(len(answer))
        told.extend(answer)
    return told
