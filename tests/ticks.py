"""Rows of ticks, told plainly by the words of points 35 and 36, and servers and breakers looked through whole."""

from rankgarth.serve import solve_wishes
from rankgarth.wishes import wish_of

HOPES = ("hope", "calm")
MARKS = ("answer", "often")


def has(number, bit):
    return number // 2 ** bit % 2 == 1


class Endless:
    """A row of ticks (asks, deeds) without end: a path, then a ring again and again."""

    def __init__(self, path, ring):
        self.path = path
        self.ring = ring

    def at(self, when):
        if when < len(self.path):
            return self.path[when]
        return self.ring[(when - len(self.path)) % len(self.ring)]

    def raised(self, when, ask):
        return has(self.at(when)[0], ask)

    def done(self, when, deed):
        return has(self.at(when)[1], deed)

    def whens(self, rounds):
        return range(len(self.path) + rounds * len(self.ring))

    def again(self):
        """The ticks of one round of the ring."""
        return range(len(self.path), len(self.path) + len(self.ring))


def only_holds(row, ask, deed):
    ahead = -1
    for when in row.whens(2):
        if row.done(when, deed):
            if not any(row.raised(early, ask) for early in range(ahead + 1, when + 1)):
                return False
            ahead = when
    return True


def holds(wish, row):
    """Whether the wish holds over the whole row."""
    word, *numbers = wish
    if word == "answer":
        ask, deed = numbers
        return all(not row.raised(when, ask) or any(row.done(then, deed) for then in row.whens(2) if then >= when)
                   for when in row.whens(1))
    if word == "often":
        return any(row.done(when, numbers[0]) for when in row.again())
    if word == "within":
        ask, deed, more = numbers
        return all(not row.raised(when, ask) or any(row.done(when + late, deed) for late in range(more + 1))
                   for when in row.whens(1))
    if word == "never":
        return not any(row.done(when, numbers[0]) and row.done(when, numbers[1]) for when in row.whens(1))
    if word == "not":
        return not any(row.raised(when, numbers[0]) and row.done(when, numbers[1]) for when in row.whens(1))
    if word == "only":
        return only_holds(row, *numbers)
    if word == "hope":
        return any(row.raised(when, numbers[0]) for when in row.again())
    return any(not row.raised(when, numbers[0]) for when in row.again())


def is_kept(wishes, row):
    """Point 36."""
    if not all(holds(wish, row) for wish in wishes if wish[0] not in HOPES + MARKS):
        return False
    if not all(holds(wish, row) for wish in wishes if wish[0] in HOPES):
        return True
    return all(holds(wish, row) for wish in wishes if wish[0] in MARKS)


def endless_row(start, step):
    """The row of ticks that comes of a state and step(state): a tick and the next state."""
    ticks = []
    seen = {}
    state = start
    while state not in seen:
        seen[state] = len(ticks)
        tick, state = step(state)
        ticks.append(tick)
    return Endless(ticks[:seen[state]], ticks[seen[state]:])


def served_row(machine, path, ring):
    """What a machine makes of the asks of a path, then of a ring again and again."""
    row = path + ring

    def step(state):
        at, when = state
        deeds, after = machine[1][at][row[when]]
        return (row[when], deeds), (after, when + 1 if when + 1 < len(row) else len(path))

    return endless_row((machine[0], 0), step)


def broken_row(breaker, path, ring):
    """The same of a breaker and of deeds."""
    row = path + ring

    def step(state):
        at, when = state
        asks, nexts = breaker[1][at]
        return (asks, row[when]), (nexts[row[when]], when + 1 if when + 1 < len(row) else len(path))

    return endless_row((breaker[0], 0), step)


def ticked(made, states, asks, deeds):
    """The states of the wishes behind a tick, or None where it breaks one."""
    after = tuple(wish.after(state, asks, deeds) for wish, state in zip(made, states))
    return None if None in after else after


def steps_behind(start, steps):
    """Each node that is come to from the start, with the nodes behind it; None is not gone into."""
    found = {}
    edge = [start]
    while edge:
        node = edge.pop()
        if node is None or node in found:
            continue
        found[node] = steps(node)
        edge += found[node]
    return found


def server_steps(machine, made):
    def steps(node):
        at, states = node
        told = []
        for asks, (deeds, after) in enumerate(machine[1][at]):
            behind = ticked(made, states, asks, deeds)
            told.append(None if behind is None else (after, behind))
        return told
    return steps_behind((machine[0], (0,) * len(made)), steps)


def breaker_steps(breaker, made):
    def steps(node):
        at, states = node
        asks, nexts = breaker[1][at]
        told = []
        for deeds, after in enumerate(nexts):
            behind = ticked(made, states, asks, deeds)
            told.append(None if behind is None else (after, behind))
        return told
    return steps_behind((breaker[0], (0,) * len(made)), steps)


def knots(found, left):
    """Of the nodes that are left: all those lists of nodes, greatest, each of which comes to each by some ways."""
    behind = {}
    for node in left:
        reach = set()
        edge = [step for step in found[node] if step in left]
        while edge:
            step = edge.pop()
            if step not in reach:
                reach.add(step)
                edge += [further for further in found[step] if further in left]
        behind[node] = reach
    told = []
    for node in left:
        if node in behind[node]:
            told.append([other for other in behind[node] if node in behind[other]])
    return told


def met_in(made, words, nodes):
    """The wishes of these words whose mark is met at one of the nodes."""
    return {number for number, wish in enumerate(made) if wish.word in words
            and any(wish.met(states[number]) for at, states in nodes)}


def check_server(test, asks, deeds, wishes, machine):
    """No row of ticks that the machine makes is not kept."""
    made = [wish_of(row, asks, deeds) for row in wishes]
    test.assertEqual({len(row) for row in machine[1]}, {2 ** asks})
    test.assertEqual({answer for row in machine[1] for answer, after in row} - set(range(2 ** deeds)), set())
    found = server_steps(machine, made)
    test.assertNotIn(None, [step for steps in found.values() for step in steps], wishes)
    hopes = {number for number, wish in enumerate(made) if wish.word in HOPES}
    for number, wish in enumerate(made):
        if wish.word in MARKS:
            left = {node for node in found if not wish.met(node[1][number])}
            for knot in knots(found, left):
                test.assertNotEqual(met_in(made, HOPES, knot), hopes, wishes)


def check_breaker(test, asks, deeds, wishes, breaker):
    """No row of ticks that the breaker makes is kept, whatever deeds it is told."""
    made = [wish_of(row, asks, deeds) for row in wishes]
    for raised, nexts in breaker[1]:
        test.assertIs(type(raised), int)
        test.assertIn(raised, range(2 ** asks))
        test.assertEqual(len(nexts), 2 ** deeds)
        test.assertEqual(set(nexts) - set(range(len(breaker[1]))), set())
    found = breaker_steps(breaker, made)
    for number, wish in enumerate(made):
        if wish.word in HOPES:
            # Each hope is met in each ring that breaks nothing.
            test.assertEqual(knots(found, {node for node in found if not wish.met(node[1][number])}), [], wishes)
    marks = {number for number, wish in enumerate(made) if wish.word in MARKS}
    for knot in knots(found, set(found)):
        test.assertNotEqual(met_in(made, MARKS, knot), marks, wishes)


def size_by_the_words(asks, wishes):
    """The number of point 38."""
    states = 1
    for wish in wishes:
        states *= {"within": wish[-1] + 1, "never": 1, "not": 1}.get(wish[0], 2)
    hopes = len([wish for wish in wishes if wish[0] in HOPES]) or 1
    marks = len([wish for wish in wishes if wish[0] in MARKS]) or 1
    return (states * (1 + 2 ** asks) + 1) * hopes * marks


def check_told(test, asks, deeds, wishes):
    """What is told of wishes is as point 38 asks; told is which word it was."""
    told = solve_wishes(asks, deeds, wishes)
    test.assertIs(type(told), tuple)
    word, (start, rows) = told
    test.assertIn(word, ("kept", "broken"))
    test.assertIn(start, range(len(rows)))
    test.assertLessEqual(len(rows), size_by_the_words(asks, wishes))
    check = check_server if word == "kept" else check_breaker
    check(test, asks, deeds, wishes, told[1])
    return word
