"""Many lines of calls against a plain program that makes every answer anew from the table."""

import random
import unittest

from calling import ages, ask, joined, keep, load, put, read, refresh, take, together, told_lines, was
from keptready.tabletext import table_of

WRITTEN = {
    "keep": keep, "put": put, "take": take, "refresh": refresh, "ages": ages, "read": read, "together": together,
    "was": was,
}


def group(numbers, grouping):
    return tuple(n for c, n in enumerate(numbers) if grouping & 2 ** c)


def plain_lines(rows, grouping):
    """The grouping's answer, by the words: lines in order, each with its numbers, its sum and how many rows."""
    lines = []
    for one in sorted({group(numbers, grouping) for numbers, _ in rows}):
        members = [m for numbers, m in rows if group(numbers, grouping) == one]
        lines.append((one, sum(members), len(members)))
    return lines


def lines_told(rows, grouping):
    return told_lines(*[[*one, summed, how_many] for one, summed, how_many in plain_lines(rows, grouping)])


def has_all(grouping, other):
    return set(group(range(4), other)) <= set(group(range(4), grouping))


class Plain:
    """Holds every table there has been; a kept answer is the number of changes that it has seen."""

    def __init__(self):
        self.tables = None

    def answer(self, name, given):
        if name == "load":
            return self.load(*given)
        return [-1] if self.tables is None else getattr(self, name)(*given)

    def load(self, width, rows):
        self.width = width
        self.tables = [list(rows)]
        self.changed = []
        self.seen = {}
        return [1, width, len(rows), 0]

    def is_none(self, grouping):
        return grouping not in range(2 ** self.width)

    def size(self, grouping):
        return len(plain_lines(self.tables[self.seen[grouping]], grouping))

    def age(self, grouping):
        return len(self.changed) - self.seen[grouping]

    def touched(self, since, grouping):
        return len(plain_lines(self.changed[since:], grouping))

    def keep(self, *groupings):
        if any(self.is_none(g) for g in groupings):
            return [-2]
        self.seen = {g: self.seen.get(g, len(self.changed)) for g in groupings}
        return [1, len(self.seen), sum(self.size(g) for g in self.seen)]

    def change(self, rows, row):
        self.tables.append(rows)
        self.changed.append(row)
        return [1, len(rows), len(self.changed)]

    def put(self, m, *numbers):
        rows = self.tables[-1]
        if len(numbers) != self.width or any(n not in range(10) for n in numbers) or abs(m) > 1000:
            return [-4]
        if len(rows) >= 16:
            return [-6]
        if len(self.changed) >= 40:
            return [-7]
        return self.change(rows + [(numbers, m)], (numbers, m))

    def take(self, i):
        rows = self.tables[-1]
        if i not in range(len(rows)):
            return [-3]
        if len(self.changed) >= 40:
            return [-7]
        return self.change(rows[:i] + rows[i + 1:], rows[i])

    def refresh(self, g):
        if g not in self.seen:
            return [-5]
        since = self.seen[g]
        self.seen[g] = len(self.changed)
        return [1, len(self.changed) - since, self.touched(since, g), self.size(g)]

    def ages(self):
        return [len(self.seen)] + joined([g, self.age(g), self.size(g)] for g in sorted(self.seen))

    def read(self, g, a):
        if self.is_none(g):
            return [-2]
        if a < 0:
            return [-8]
        least = None
        for h in sorted(self.seen):
            if self.age(h) <= a and has_all(h, g) and (least is None or self.size(h) < self.size(least)):
                least = h
        if least is None:
            return [1, -1, 0, len(self.tables[-1])] + lines_told(self.tables[-1], g)
        return [1, least, self.age(least), self.size(least)] + lines_told(self.tables[self.seen[least]], g)

    def way(self, g):
        """From which other one it is brought up to date for least, and what that costs."""
        least, cost = -1, self.age(g)
        for h in sorted(self.seen):
            if h != g and self.seen[h] == self.seen[g] and has_all(h, g) and self.touched(self.seen[g], h) < cost:
                least, cost = h, self.touched(self.seen[g], h)
        return [least, cost]

    def together(self):
        ways = [[g, *self.way(g)] for g in sorted(self.seen)]
        return [sum(cost for _, _, cost in ways), len(ways)] + joined(ways)

    def was(self, n, g):
        if n not in range(len(self.changed) + 1):
            return [-9]
        return [-2] if self.is_none(g) else [1] + lines_told(self.tables[n], g)


def some_numbers(chance, width):
    return tuple(chance.randrange(3) for _ in range(width))


def some_rows(chance, width, most):
    return [(some_numbers(chance, width), chance.randint(-9, 9)) for _ in range(chance.randint(0, most))]


def some_call(chance, names, width):
    """A call's name and what is handed to it; now and then it is to be refused."""
    name = chance.choice(names)
    most = 2 ** width
    if name == "load":
        columns = chance.randint(1, 4)
        return name, [columns, some_rows(chance, columns, 16)]
    if name == "keep":
        wrong = [most] if chance.randrange(12) == 0 else []
        return name, [chance.randrange(most) for _ in range(chance.randrange(2 * most))] + wrong
    if name == "put":
        # Alike rows come often, so that several changes touch one group.
        numbers = some_numbers(chance, width) if chance.randrange(2) else (1,) * width
        return name, [chance.randint(-1001, 1001) if chance.randrange(3) == 0 else 0, *numbers]
    if name == "take":
        return name, [chance.randint(-1, 8)]
    if name == "refresh":
        return name, [chance.randint(-1, most)]
    if name == "read":
        return name, [chance.randint(-1, most), chance.choice([-1, 0, 1, 2, 3, 5, 8, 40, 10 ** 18])]
    if name == "was":
        return name, [chance.randint(-1, 24), chance.randint(-1, most)]
    return name, []


def some_calls(chance, names, how_many):
    calls = []
    width = 2
    for _ in range(how_many):
        calls.append(some_call(chance, names, width))
        if calls[-1][0] == "load":
            width = calls[-1][1][0]
    return calls


def text_of(width, rows):
    text = "columns " + ", ".join("abcd"[:width]) + " ;"
    for numbers, m in rows:
        text += " row " + ", ".join(str(n) for n in numbers) + f" : {m} ;"
    return text


def written(name, given):
    return load(text_of(*given)) if name == "load" else WRITTEN[name](*given)


class AgainstThePlainProgram(unittest.TestCase):
    def check(self, seed, calls):
        plain = Plain()
        expected = [plain.answer(name, given) for name, given in calls]
        self.assertEqual(ask(*[written(name, given) for name, given in calls]), expected, f"seed {seed}")

    def check_loaded(self, names, how_many_seeds):
        for seed in range(how_many_seeds):
            chance = random.Random(seed)
            first = some_call(chance, ["load"], 0)
            width = first[1][0]
            self.check(seed, [first] + [some_call(chance, names, width) for _ in range(59)])

    def test_the_calls_that_change_and_keep(self):
        self.check_loaded(["keep", "put", "put", "take", "take", "refresh", "refresh", "refresh"], 400)

    def test_all_calls_on_one_table(self):
        names = ["keep", "refresh", "ages", "read", "read", "together", "was"] + ["put"] * 4 + ["take"] * 3
        self.check_loaded(names, 600)

    def test_all_calls_with_loads_between(self):
        names = ["load", "keep", "keep"] + ["put", "take", "refresh", "ages", "read", "together", "was"] * 2
        for seed in range(400):
            self.check(seed, some_calls(random.Random(seed), names, 60))


class ThePromises(unittest.TestCase):
    """Drawn lines of calls, whose answers have to fit one another as the promises say."""

    def drawn(self, names):
        for seed in range(150):
            chance = random.Random(seed)
            first = some_call(chance, ["load"], 0)
            width = first[1][0]
            calls = [written(*call) for call in [first] + [some_call(chance, names, width) for _ in range(25)]]
            yield seed, width, calls

    def test_what_is_brought_up_to_date_is_as_if_made_anew(self):
        for seed, width, calls in self.drawn(["keep", "put", "put", "take", "refresh"]):
            for grouping in range(2 ** width):
                told = ask(*calls, refresh(grouping), read(grouping, 0))[-2:]
                if told[0][0] == 1:
                    # It is kept alone, so that the first one reads it and the second one the table.
                    alone = [keep(grouping), read(grouping, 0), keep(), read(grouping, 0)]
                    kept, anew = ask(*calls, refresh(grouping), *alone)[-3::2]
                    self.assertEqual(kept[1:3], [grouping, 0], f"seed {seed}")
                    self.assertEqual(anew[1], -1, f"seed {seed}")
                    self.assertEqual(kept[4:], anew[4:], f"seed {seed}")
                    self.assertEqual(told[1][4:], anew[4:], f"seed {seed}")

    def test_what_is_read_was_so_many_changes_ago(self):
        for seed, width, calls in self.drawn(["keep", "put", "put", "take", "refresh"]):
            changes = len([told for call, told in zip(calls, ask(*calls)) if call[0] in (2, 3) and told[0] == 1])
            for grouping in range(2 ** width):
                for oldest in (0, 2, 40):
                    told = ask(*calls, read(grouping, oldest))[-1]
                    self.assertLessEqual(told[2], oldest, f"seed {seed}")
                    then = ask(*calls, was(changes - told[2], grouping))[-1]
                    self.assertEqual(told[4:], then[1:], f"seed {seed}")

    def test_together_costs_no_more_than_each_by_the_changes(self):
        for seed, width, calls in self.drawn(["keep", "keep", "put", "put", "put", "take", "take", "refresh"]):
            old, costs = ask(*calls, ages(), together())[-2:]
            self.assertEqual(costs[2::3], old[1::3], f"seed {seed}")
            self.assertEqual(costs[0], sum(costs[4::3]), f"seed {seed}")
            for age, cost in zip(old[2::3], costs[4::3]):
                self.assertLessEqual(cost, age, f"seed {seed}")


class QuestionsOfATable(unittest.TestCase):
    def test_groupings_and_times(self):
        questions = table_of(list(b"columns a, b ; ask ; ask b ; ask b, a times 2 ; ask times 99 ; ask a times 1 ;")).questions
        self.assertEqual([(q.grouping, q.times) for q in questions], [(0, 1), (2, 1), (3, 2), (0, 99), (1, 1)])


if __name__ == "__main__":
    unittest.main()
