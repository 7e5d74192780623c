"""What the tests share: calls written short, and answers parted into one list a call."""

from keptready.tables import answers

SAMPLE = (
    "columns city, kind ; row 0, 0 : 5 ; row 0, 1 : 2 ; row 1, 0 : 4 ; row 1, 0 : -1 ; row 0, 0 : 1 ; "
    "ask city times 3 ; ask kind ; ask city, kind times 2 ; ask ;"
)


def load(text):
    told = list(text.encode("ascii")) if isinstance(text, str) else list(text)
    return [0, len(told)] + told


def keep(*groupings):
    return [1, len(groupings)] + list(groupings)


def put(summed, *numbers):
    return [2, summed, len(numbers)] + list(numbers)


def take(place):
    return [3, place]


def refresh(grouping):
    return [4, grouping]


def ages():
    return [5]


def read(grouping, oldest):
    return [6, grouping, oldest]


def together():
    return [7]


def was(how_many, grouping):
    return [8, how_many, grouping]


def parted(told):
    parts = []
    place = 0
    while place < len(told):
        end = place + 1 + told[place]
        parts.append(told[place + 1:end])
        place = end
    if place != len(told):
        raise AssertionError("the last answer is cut short")
    return parts


def joined(calls):
    return [number for call in calls for number in call]


def ask(*calls):
    """The answers to these calls on one object, one list a call."""
    return parted(answers(joined(calls)))


def ask_loaded(text, *calls):
    """As ask, on an object that holds the table; the answer of its load is left out."""
    told = ask(load(text), *calls)
    if told[0][0] != 1:
        raise AssertionError(f"the table is at fault: {told[0]}")
    return told[1:]


def told_lines(*lines):
    """How a call tells these lines, each one a list of its numbers."""
    return [len(lines)] + joined(lines)


def rows_text(how_many, row="row 0 : 1 ;"):
    return " ".join([row] * how_many)
