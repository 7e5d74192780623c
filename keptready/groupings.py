"""Groupings: their answers, how these are made, changed by a change, and worked out from one another."""


class Change:
    """A row that was put (sign 1) or taken (sign -1)."""

    def __init__(self, sign, row):
        self.sign = sign
        self.row = row


def columns_of(grouping):
    return [column for column in range(grouping.bit_length()) if grouping >> column & 1]


def has_all_columns(grouping, other):
    """Whether the grouping has all columns of the other one, which can then be worked out from it."""
    return grouping & other == other


def group_of(row, grouping):
    """The row's numbers in the columns of the grouping."""
    return tuple([row.numbers[column] for column in columns_of(grouping)])


def groups_touched(changes, grouping):
    """How many unlike groups the changes touch."""
    return len(set([group_of(change.row, grouping) for change in changes]))


class Answer:
    """A grouping's answer as it was after so many changes: each group's sum and how many rows it has."""

    def __init__(self, grouping, rows, changes_seen):
        self.grouping = grouping
        self.changes_seen = changes_seen
        self.lines = {}
        for row in rows:
            self.count_row(1, row)

    def count_row(self, sign, row):
        self.count_in(group_of(row, self.grouping), sign * row.summed, sign)

    def count_in(self, group, summed, how_many):
        """Adds to the group's line, which comes with its first row and goes with its last."""
        line = self.lines.get(group, (0, 0))
        if line[1] + how_many == 0:
            self.lines.pop(group)
        else:
            self.lines[group] = (line[0] + summed, line[1] + how_many)

    def follow(self, changes):
        """Brings it up to date by the changes since; changes are all that there have been."""
        for change in changes[self.changes_seen:]:
            self.count_row(change.sign, change.row)
        self.changes_seen = len(changes)

    def worked_out(self, grouping):
        """The answer, just as old, of a grouping whose columns this one has all."""
        answer = Answer(grouping, [], self.changes_seen)
        own_columns = columns_of(self.grouping)
        for group, line in self.lines.items():
            part = [number for column, number in zip(own_columns, group) if grouping >> column & 1]
            answer.count_in(tuple(part), line[0], line[1])
        return answer

    def told_lines(self):
        """How many lines there are, and each one's numbers, in order of its group."""
        told = [len(self.lines)]
        for group in sorted(self.lines):
            told.extend(group)
            told.extend(self.lines[group])
        return told
