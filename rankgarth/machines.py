"""Machines: asked in a row, they answer in a row."""

from rankgarth.errors import NoAsk, NoMachine
from rankgarth.games import is_place


def check_machine_row(row, asks, states):
    if len(row) == 0 or len(row) != asks:
        raise NoMachine("each state of a machine has the same asks, at least one")
    for step in row:
        if not is_place(step[1], states):
            raise NoMachine("a machine goes on to its own states alone")


def check_machine(start, rows):
    # Where there are no rows, no start is a state.
    if not is_place(start, len(rows)):
        raise NoMachine("a machine starts in one of its states")
    for row in rows:
        check_machine_row(row, len(rows[0]), len(rows))


def machine_of(start, rows):
    check_machine(start, rows)
    return (start, [[(step[0], step[1]) for step in row] for row in rows])


class Runner:
    def __init__(self, machine):
        self.state = machine[0]
        # A copy, as the asker may change the machine later.
        self.rows = [list(row) for row in machine[1]]

    def step(self, ask):
        row = self.rows[self.state]
        if not is_place(ask, len(row)):
            raise NoAsk("the machine has no such ask")
        self.state = row[ask][1]
        return row[ask][0]


def told(machine, asks):
    runner = Runner(machine)
    return [runner.step(ask) for ask in asks]


def sights(row, table):
    # What each ask shows: its answer, and the kind of the state behind it by the table.
    return [(step[0], table[step[1]]) for step in row]


def split_further(rows, table):
    numbers = {}
    further = []
    for row in rows:
        further.append(numbers.setdefault(tuple(sights(row, table)), len(numbers)))
    return further


def splits(rows):
    # The n-th table has the same number for the states that no row of n asks tells apart.
    tables = [[0] * len(rows)]
    while True:
        table = split_further(rows, tables[-1])
        if max(table) == max(tables[-1]):
            return tables
        tables.append(table)


def first_unlike(row, other, table):
    sight = sights(other, table)
    return [ask for ask, seen in enumerate(sights(row, table)) if seen != sight[ask]][0]


def apart_in(rows, one, other):
    tables = splits(rows)
    alike = [table for table in tables if table[one] == table[other]]
    if len(alike) == len(tables):
        return None
    asks = []
    # From the longest rows that don't tell them apart down: behind each ask one ask less is left.
    for table in reversed(alike):
        ask = first_unlike(rows[one], rows[other], table)
        asks.append(ask)
        one = rows[one][ask][1]
        other = rows[other][ask][1]
    return asks


def apart(machine, one, other):
    return apart_in(machine[1], one, other)


def rows_moved(rows, by):
    return [[(step[0], step[1] + by) for step in row] for row in rows]


def differ(one, other):
    if len(one[1][0]) != len(other[1][0]):
        raise NoMachine("the machines have unlike numbers of asks")
    count = len(one[1])
    return apart_in(one[1] + rows_moved(other[1], count), one[0], other[0] + count)


def least_machine(machine):
    rows = machine[1]
    kinds = splits(rows)[-1]
    # One state of each kind, in the order in which the kinds are come to.
    firsts = [machine[0]]
    numbers = {kinds[machine[0]]: 0}
    least = []
    while len(least) < len(firsts):
        row = []
        for step in rows[firsts[len(least)]]:
            kind = kinds[step[1]]
            if kind not in numbers:
                numbers[kind] = len(firsts)
                firsts.append(step[1])
            row.append((step[0], numbers[kind]))
        least.append(row)
    return (0, least)
