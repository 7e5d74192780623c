"""Many lines of calls against a plain program that makes every answer anew from the table."""

import random
import unittest

from calling import ask, keep, load, put, refresh, take
from keptready.groupings import Change, KeptAnswer
from keptready.tabletext import Row, table_of


def plain_lines(rows, grouping):
    """The grouping's answer, by the words: lines in order, each with its numbers, its sum and how many rows."""
    groups = sorted({tuple(n for c, n in enumerate(numbers) if grouping & 2 ** c) for numbers, _ in rows})
    lines = []
    for group in groups:
        members = [m for numbers, m in rows if tuple(n for c, n in enumerate(numbers) if grouping & 2 ** c) == group]
        lines.append((group, sum(members), len(members)))
    return lines


class Plain:
    """Holds every table there has been; a kept answer is the number of changes that it has seen."""

    def __init__(self, width, rows):
        self.width = width
        self.tables = [list(rows)]
        self.changed = []
        self.seen = {}

    def size(self, grouping):
        return len(plain_lines(self.tables[self.seen[grouping]], grouping))

    def keep(self, *groupings):
        if any(g not in range(2 ** self.width) for g in groupings):
            return [-2]
        self.seen = {g: self.seen.get(g, len(self.changed)) for g in groupings}
        return [1, len(self.seen), sum(self.size(g) for g in self.seen)]

    def change(self, rows, row):
        self.tables.append(rows)
        self.changed.append(row)
        return [1, len(rows), len(self.changed)]

    def put(self, m, *numbers):
        rows = self.tables[-1]
        if len(numbers) != self.width or any(n not in range(10) for n in numbers) or abs(m) > 1000:
            return [-4]
        if len(rows) >= 16:
            return [-6]
        if len(self.changed) >= 40:
            return [-7]
        return self.change(rows + [(numbers, m)], (numbers, m))

    def take(self, i):
        rows = self.tables[-1]
        if i not in range(len(rows)):
            return [-3]
        if len(self.changed) >= 40:
            return [-7]
        return self.change(rows[:i] + rows[i + 1:], rows[i])

    def refresh(self, g):
        if g not in self.seen:
            return [-5]
        since = self.changed[self.seen[g]:]
        self.seen[g] = len(self.changed)
        return [1, len(since), len(plain_lines(since, g)), self.size(g)]


def some_numbers(chance, width):
    return tuple(chance.randrange(3) for _ in range(width))


def some_call(chance, width):
    """A call's name and what is handed to it; now and then it is to be refused."""
    name = chance.choice(["keep", "put", "put", "take", "take", "refresh", "refresh", "refresh"])
    most = 2 ** width
    if name == "keep":
        wrong = [most] if chance.randrange(12) == 0 else []
        return name, [chance.randrange(most) for _ in range(chance.randrange(2 * most))] + wrong
    if name == "put":
        numbers = some_numbers(chance, width)
        return name, [chance.randint(-1001, 1001) if chance.randrange(3) == 0 else 0, *numbers]
    if name == "take":
        return name, [chance.randint(-1, 8)]
    return name, [chance.randint(-1, most)]


def text_of(width, rows):
    text = "columns " + ", ".join("abcd"[:width]) + " ;"
    for numbers, m in rows:
        text += " row " + ", ".join(str(n) for n in numbers) + f" : {m} ;"
    return text


class AgainstThePlainProgram(unittest.TestCase):
    def test_lines_of_calls(self):
        written = {"keep": keep, "put": put, "take": take, "refresh": refresh}
        for seed in range(400):
            chance = random.Random(seed)
            width = chance.randint(1, 4)
            rows = [(some_numbers(chance, width), chance.randint(-9, 9)) for _ in range(chance.randrange(17))]
            calls = [some_call(chance, width) for _ in range(59)]
            plain = Plain(width, rows)
            expected = [[1, width, len(rows), 0]] + [getattr(plain, name)(*given) for name, given in calls]
            told = ask(load(text_of(width, rows)), *[written[name](*given) for name, given in calls])
            self.assertEqual(told, expected, f"seed {seed}")


class LinesOfKeptAnswers(unittest.TestCase):
    def lines(self, answer):
        return [(group, *answer.lines[group]) for group in sorted(answer.lines)]

    def test_sums_and_numbers_of_rows_follow_the_changes(self):
        for seed in range(100):
            chance = random.Random(seed)
            width = chance.randint(1, 4)
            rows = [(some_numbers(chance, width), chance.randint(-9, 9)) for _ in range(8)]
            kept = [KeptAnswer(g, table_of(list(text_of(width, rows).encode())).rows, 0) for g in range(2 ** width)]
            self.check(kept, rows)
            changes = []
            for _ in range(20):
                if rows and chance.randrange(2):
                    changes.append(Change(-1, Row(*rows.pop(chance.randrange(len(rows))))))
                else:
                    rows.append((some_numbers(chance, width), chance.randint(-9, 9)))
                    changes.append(Change(1, Row(*rows[-1])))
                if chance.randrange(3) == 0:
                    for answer in kept:
                        answer.follow(changes)
                    self.check(kept, rows)

    def check(self, kept, rows):
        for answer in kept:
            self.assertEqual(self.lines(answer), plain_lines(rows, answer.grouping))

    def test_minus_zero_is_zero(self):
        rows = table_of(list(b"columns a ; row 1 : -0 ; row 1 : -7 ;")).rows
        self.assertEqual(self.lines(KeptAnswer(1, rows, 0)), [((1,), -7, 2)])

    def test_a_row_put_and_taken_again_leaves_no_trace(self):
        row = Row((1,), 5)
        answer = KeptAnswer(1, [Row((1,), 2)], 0)
        answer.follow([Change(1, row), Change(-1, row), Change(1, Row((2,), 4)), Change(-1, Row((2,), 4))])
        self.assertEqual(self.lines(answer), [((1,), 2, 1)])


class QuestionsOfATable(unittest.TestCase):
    def test_groupings_and_times(self):
        questions = table_of(list(b"columns a, b ; ask ; ask b ; ask b, a times 2 ; ask times 99 ; ask a times 1 ;")).questions
        self.assertEqual([(q.grouping, q.times) for q in questions], [(0, 1), (2, 1), (3, 2), (0, 99), (1, 1)])


if __name__ == "__main__":
    unittest.main()
