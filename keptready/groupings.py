"""Groupings: their answers, how these are made, and how a change changes them."""


class Change:
    """A row that was put (sign 1) or taken (sign -1)."""

    def __init__(self, sign, row):
        self.sign = sign
        self.row = row


def group_of(row, grouping):
    """The row's numbers in the columns of the grouping."""
    return tuple([number for column, number in enumerate(row.numbers) if grouping >> column & 1])


def groups_touched(changes, grouping):
    """How many unlike groups the changes touch."""
    return len(set([group_of(change.row, grouping) for change in changes]))


class KeptAnswer:
    """A grouping's answer as it was after so many changes: each group's sum and how many rows it has."""

    def __init__(self, grouping, rows, changes_seen):
        self.grouping = grouping
        self.changes_seen = changes_seen
        self.lines = {}
        for row in rows:
            self.count_row(1, row)

    def count_row(self, sign, row):
        group = group_of(row, self.grouping)
        line = self.lines.get(group, (0, 0))
        how_many = line[1] + sign
        if how_many == 0:
            self.lines.pop(group)
        else:
            self.lines[group] = (line[0] + sign * row.summed, how_many)

    def follow(self, changes):
        """Brings it up to date by the changes since; changes are all that there have been."""
        for change in changes[self.changes_seen:]:
            self.count_row(change.sign, change.row)
        self.changes_seen = len(changes)
