"""The object: a table as it is now, its changes, and kept answers."""

from keptready.faults import Fault
from keptready.groupings import Change, KeptAnswer, groups_touched
from keptready.tabletext import GREATEST_NUMBER_IN_ROW, GREATEST_SUMMED, MOST_ROWS, Row, table_of

MOST_CHANGES = 40
NO_GROUPING = 2
NO_ROW = 3
ROW_IS_WRONG = 4
NOT_KEPT = 5
ROWS_ARE_FULL = 6
CHANGES_ARE_FULL = 7


def refusal(number):
    """A refusal is told below 0."""
    return [-number]


class Holder:
    """Holds no table at first. Every call but load asks for one; who calls sees to it."""

    def __init__(self):
        self.table = None
        self.rows = []
        self.changes = []
        self.kept = {}

    def load(self, text):
        try:
            table = table_of(text)
        except Fault as fault:
            return [0, fault.code, fault.place]
        self.table = table
        # The table stays as it was told: the rows that come and go are a list of their own.
        self.rows = list(table.rows)
        self.changes = []
        self.kept = {}
        return [1, len(table.columns), len(table.rows), len(table.questions)]

    def keep(self, groupings):
        if not all([self.has_grouping(grouping) for grouping in groupings]):
            return refusal(NO_GROUPING)
        kept = {}
        for grouping in sorted(set(groupings)):
            if grouping in self.kept:
                kept[grouping] = self.kept[grouping]
            else:
                kept[grouping] = KeptAnswer(grouping, self.rows, len(self.changes))
        self.kept = kept
        return [1, len(kept), sum([len(answer.lines) for answer in kept.values()])]

    def put(self, summed, numbers):
        if not self.fits(summed, numbers):
            return refusal(ROW_IS_WRONG)
        if len(self.rows) == MOST_ROWS:
            return refusal(ROWS_ARE_FULL)
        if len(self.changes) == MOST_CHANGES:
            return refusal(CHANGES_ARE_FULL)
        row = Row(tuple(numbers), summed)
        self.rows.append(row)
        return self.changed(Change(1, row))

    def take(self, place):
        if not 0 <= place < len(self.rows):
            return refusal(NO_ROW)
        if len(self.changes) == MOST_CHANGES:
            return refusal(CHANGES_ARE_FULL)
        return self.changed(Change(-1, self.rows.pop(place)))

    def refresh(self, grouping):
        if grouping not in self.kept:
            return refusal(NOT_KEPT)
        answer = self.kept[grouping]
        since = self.changes[answer.changes_seen:]
        answer.follow(self.changes)
        return [1, len(since), groups_touched(since, grouping), len(answer.lines)]

    def changed(self, change):
        self.changes.append(change)
        return [1, len(self.rows), len(self.changes)]

    def has_grouping(self, grouping):
        return 0 <= grouping < 1 << len(self.table.columns)

    def fits(self, summed, numbers):
        if len(numbers) != len(self.table.columns):
            return False
        if not -GREATEST_SUMMED <= summed <= GREATEST_SUMMED:
            return False
        return all([0 <= number <= GREATEST_NUMBER_IN_ROW for number in numbers])
