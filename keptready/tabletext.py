"""Tables: a text is read as a table, or the first of its faults is raised."""

from keptready.faults import ASKED_AGAIN, COLUMN_AGAIN, NO_COLUMN, NOT_ALLOWED
from keptready.faults import OUT_OF_BOUNDS, TEXT_TOO_LONG, TOO_MANY, Fault
from keptready.tokens import END, NAME, NUMBER, tokens_of

LONGEST_TEXT = 4096
MOST_COLUMNS = 4
MOST_ROWS = 16
MOST_QUESTIONS = 8
GREATEST_NUMBER_IN_ROW = 9
GREATEST_SUMMED = 1000
MOST_TIMES = 99


class Row:
    """A number for each column, and what is summed."""

    def __init__(self, numbers, summed):
        self.numbers = numbers
        self.summed = summed


class Question:
    """The columns that it is grouped by, as a grouping, and how often it comes."""

    def __init__(self, grouping, times):
        self.grouping = grouping
        self.times = times


class Table:
    """A table as its text tells it."""

    def __init__(self, columns):
        self.columns = columns
        self.rows = []
        self.questions = []


class TokenReader:
    """Goes through the tokens from left to right."""

    def __init__(self, tokens):
        self.tokens = tokens
        self.position = 0

    def sees(self, kind):
        return self.tokens[self.position].kind == kind

    def need(self, kind):
        """Passes the token, which has to be of this kind, and gives it back."""
        token = self.tokens[self.position]
        if token.kind != kind:
            raise Fault(NOT_ALLOWED, token.place)
        self.position += 1
        return token

    def passes(self, kind):
        """Passes the token if it is of this kind, and tells whether it was."""
        if not self.sees(kind):
            return False
        self.position += 1
        return True


def need_number(reader, least, greatest):
    token = reader.need(NUMBER)
    if not least <= token.value <= greatest:
        raise Fault(OUT_OF_BOUNDS, token.place)
    return token.value


def read_columns(reader):
    reader.need("columns")
    columns = []
    more = True
    while more:
        token = reader.need(NAME)
        if len(columns) == MOST_COLUMNS:
            raise Fault(TOO_MANY, token.place)
        if token.value in columns:
            raise Fault(COLUMN_AGAIN, token.place)
        columns.append(token.value)
        more = reader.passes(",")
    reader.need(";")
    return columns


def read_row(reader, how_many_columns):
    numbers = [need_number(reader, 0, GREATEST_NUMBER_IN_ROW)]
    while len(numbers) < how_many_columns:
        reader.need(",")
        numbers.append(need_number(reader, 0, GREATEST_NUMBER_IN_ROW))
    reader.need(":")
    negative = reader.passes("-")
    summed = need_number(reader, 0, GREATEST_SUMMED)
    reader.need(";")
    return Row(tuple(numbers), -summed if negative else summed)


def read_question(reader, columns):
    grouping = 0
    more = reader.sees(NAME)
    while more:
        token = reader.need(NAME)
        if token.value not in columns:
            raise Fault(NO_COLUMN, token.place)
        bit = 1 << columns.index(token.value)
        if grouping & bit:
            raise Fault(ASKED_AGAIN, token.place)
        grouping = grouping | bit
        more = reader.passes(",")
    times = need_number(reader, 1, MOST_TIMES) if reader.passes("times") else 1
    reader.need(";")
    return Question(grouping, times)


def read_word(reader, word, already, most):
    """Passes the word that begins one more of what there may be so many of."""
    token = reader.need(word)
    if len(already) == most:
        raise Fault(TOO_MANY, token.place)


def table_of(text):
    if len(text) > LONGEST_TEXT:
        raise Fault(TEXT_TOO_LONG, LONGEST_TEXT)
    # All tokens come first, for a place without a token is told ahead of whatever else is wrong.
    reader = TokenReader(tokens_of(text))
    table = Table(read_columns(reader))
    while not reader.sees(END):
        if reader.sees("row"):
            read_word(reader, "row", table.rows, MOST_ROWS)
            table.rows.append(read_row(reader, len(table.columns)))
        else:
            read_word(reader, "ask", table.questions, MOST_QUESTIONS)
            table.questions.append(read_question(reader, table.columns))
    return table
