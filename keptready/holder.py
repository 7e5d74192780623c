"""The object: a table as it is now, its changes, and kept answers."""

from keptready.faults import Fault
from keptready.groupings import Answer, Change, groups_touched, has_all_columns
from keptready.tabletext import GREATEST_NUMBER_IN_ROW, GREATEST_SUMMED, MOST_ROWS, Row, table_of

MOST_CHANGES = 40
NO_GROUPING = 2
NO_ROW = 3
ROW_IS_WRONG = 4
NOT_KEPT = 5
ROWS_ARE_FULL = 6
CHANGES_ARE_FULL = 7
AGE_BELOW_ZERO = 8
NOT_SO_MANY_CHANGES = 9


def refusal(number):
    """A refusal is told below 0."""
    return [-number]


class Holder:
    """Holds no table at first. Every call but load asks for one; who calls sees to it."""

    def __init__(self):
        self.table = None
        self.rows = []
        self.changes = []
        self.kept = {}

    def load(self, text):
        try:
            table = table_of(text)
        except Fault as fault:
            return [0, fault.code, fault.place]
        self.table = table
        # The table stays as it was told: the rows that come and go are a list of their own.
        self.rows = list(table.rows)
        self.changes = []
        self.kept = {}
        return [1, len(table.columns), len(table.rows), len(table.questions)]

    def keep(self, groupings):
        if not all([self.has_grouping(grouping) for grouping in groupings]):
            return refusal(NO_GROUPING)
        # They are kept in order of their groupings, for that is the order in which they are told.
        kept = {}
        for grouping in sorted(set(groupings)):
            if grouping in self.kept:
                kept[grouping] = self.kept[grouping]
            else:
                kept[grouping] = Answer(grouping, self.rows, len(self.changes))
        self.kept = kept
        return [1, len(kept), sum([len(answer.lines) for answer in kept.values()])]

    def put(self, summed, numbers):
        if not self.fits(summed, numbers):
            return refusal(ROW_IS_WRONG)
        if len(self.rows) == MOST_ROWS:
            return refusal(ROWS_ARE_FULL)
        if len(self.changes) == MOST_CHANGES:
            return refusal(CHANGES_ARE_FULL)
        row = Row(tuple(numbers), summed)
        self.rows.append(row)
        return self.changed(Change(1, row))

    def take(self, place):
        if not 0 <= place < len(self.rows):
            return refusal(NO_ROW)
        if len(self.changes) == MOST_CHANGES:
            return refusal(CHANGES_ARE_FULL)
        return self.changed(Change(-1, self.rows.pop(place)))

    def refresh(self, grouping):
        if grouping not in self.kept:
            return refusal(NOT_KEPT)
        answer = self.kept[grouping]
        since = self.changes[answer.changes_seen:]
        answer.follow(self.changes)
        return [1, len(since), groups_touched(since, grouping), len(answer.lines)]

    def ages(self):
        told = [len(self.kept)]
        for answer in self.kept.values():
            told.extend([answer.grouping, self.age_of(answer), len(answer.lines)])
        return told

    def read(self, grouping, oldest):
        if not self.has_grouping(grouping):
            return refusal(NO_GROUPING)
        if oldest < 0:
            return refusal(AGE_BELOW_ZERO)
        source = self.least_readable(grouping, oldest)
        if source is None:
            told = [-1, 0, len(self.rows)]
            answer = Answer(grouping, self.rows, len(self.changes))
        else:
            told = [source.grouping, self.age_of(source), len(source.lines)]
            answer = source.worked_out(grouping)
        return [1] + told + answer.told_lines()

    def together(self):
        total = 0
        told = []
        for answer in self.kept.values():
            way = self.least_way(answer)
            total += way[0]
            told.extend([answer.grouping, way[1], way[0]])
        return [total, len(self.kept)] + told

    def was(self, how_many, grouping):
        if not 0 <= how_many <= len(self.changes):
            return refusal(NOT_SO_MANY_CHANGES)
        if not self.has_grouping(grouping):
            return refusal(NO_GROUPING)
        answer = Answer(grouping, self.table.rows, 0)
        answer.follow(self.changes[:how_many])
        return [1] + answer.told_lines()

    def age_of(self, answer):
        return len(self.changes) - answer.changes_seen

    def least_readable(self, grouping, oldest):
        """The kept answer that a question reads; None if it reads the table."""
        readable = []
        for answer in self.kept.values():
            if self.age_of(answer) <= oldest and has_all_columns(answer.grouping, grouping):
                readable.append((len(answer.lines), answer.grouping))
        return self.kept[min(readable)[1]] if readable else None

    def least_way(self, answer):
        """What it costs at the least to bring it up to date, and from which kept one."""
        since = self.changes[answer.changes_seen:]
        # By the changes is -1, less than every grouping: so it comes first of ways that cost alike.
        ways = [(len(since), -1)]
        for other in self.kept.values():
            just_as_old = other.changes_seen == answer.changes_seen
            is_another = other.grouping != answer.grouping
            if just_as_old and is_another and has_all_columns(other.grouping, answer.grouping):
                ways.append((groups_touched(since, other.grouping), other.grouping))
        return min(ways)

    def changed(self, change):
        self.changes.append(change)
        return [1, len(self.rows), len(self.changes)]

    def has_grouping(self, grouping):
        return 0 <= grouping < 1 << len(self.table.columns)

    def fits(self, summed, numbers):
        if len(numbers) != len(self.table.columns):
            return False
        if not -GREATEST_SUMMED <= summed <= GREATEST_SUMMED:
            return False
        return all([0 <= number <= GREATEST_NUMBER_IN_ROW for number in numbers])
