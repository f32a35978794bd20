"""Points 32 to 34: machines."""

import itertools
import random
import unittest

from rankgarth.errors import NoAsk, NoMachine
from rankgarth.machines import Runner, apart, differ, least_machine, machine_of, told
from tests.samples import refusal

FAR = 10 ** 59

ONE = machine_of(0, [[(7, 0)]])
# Tells how many 1s there were, up to two; 0 asks for it.
COUNTS = machine_of(0, [[(0, 0), (9, 1)], [(1, 1), (9, 2)], [(2, 2), (9, 2)]])


def random_machine(source, states, asks, answers):
    rows = [[(source.choice(answers), source.randrange(states)) for ask in range(asks)] for state in range(states)]
    return machine_of(source.randrange(states), rows)


def small_machines(many, seed):
    source = random.Random(seed)
    return [
        random_machine(source, source.randint(1, 4), source.randint(1, 3), source.choice(([0], [0, 1], [3, -3, FAR])))
        for number in range(many)
    ]


def chain_machine(states, asks):
    """Only the last ask leads on, and only the last state answers otherwise: to its first ask."""
    rows = []
    for state in range(states):
        row = [(0, state)] * (asks - 1) + [(0, min(state + 1, states - 1))]
        if state == states - 1:
            row[0] = (1, state)
        rows.append(row)
    return machine_of(0, rows)


def great_machine():
    return random_machine(random.Random(160), 160, 8, [-FAR, 0, 1, FAR])


def answers_from(rows, state, asks):
    found = []
    for ask in asks:
        answer, state = rows[state][ask]
        found.append(answer)
    return found


def apart_by_the_words(rows, one, others, other, longest):
    """Each row of asks up to this length, the shorter ones first, then in the order of numbers."""
    for length in range(longest + 1):
        for asks in itertools.product(range(len(rows[0])), repeat=length):
            if answers_from(rows, one, asks) != answers_from(others, other, asks):
                return list(asks)
    return None


def scrambled(source, machine):
    """The same machine with its states in another order, each doubled, and some that are not come to."""
    start, rows = machine
    count = len(rows)
    order = list(range(2 * count + 2))
    source.shuffle(order)
    new = [None] * len(order)
    for state, row in enumerate(rows):
        for copy in (state, state + count):
            new[order[copy]] = [(answer, order[goal + source.choice((0, count))]) for answer, goal in row]
    for extra in (2 * count, 2 * count + 1):
        new[order[extra]] = [(source.randrange(3), source.randrange(len(order))) for ask in rows[0]]
    return machine_of(order[start], new)


class MachineOfTest(unittest.TestCase):
    def test_one_state_and_one_ask(self):
        self.assertEqual(ONE, (0, [[(7, 0)]]))
        self.assertIs(type(ONE), tuple)

    def test_as_it_stands(self):
        rows = [[(-FAR, 1), (FAR, 0)], [(0, 0), (0, 1)]]
        self.assertEqual(machine_of(1, rows), (1, [[(-FAR, 1), (FAR, 0)], [(0, 0), (0, 1)]]))

    def test_160_states_and_8_asks(self):
        start, rows = great_machine()
        self.assertEqual(machine_of(start, rows), (start, rows))
        self.assertEqual((len(rows), {len(row) for row in rows}), (160, {8}))

    def test_no_rows(self):
        for start in (0, 1, -1):
            self.assertIs(refusal(machine_of, start, []), NoMachine)

    def test_rows_without_asks(self):
        self.assertIs(refusal(machine_of, 0, [[]]), NoMachine)
        self.assertIs(refusal(machine_of, 0, [[], []]), NoMachine)
        self.assertIs(refusal(machine_of, 0, [[(0, 0)], []]), NoMachine)
        self.assertIs(refusal(machine_of, 0, [[], [(0, 0)]]), NoMachine)

    def test_rows_with_too_few_or_too_many(self):
        two = [(0, 0), (0, 1)]
        self.assertIs(refusal(machine_of, 0, [two, two[:1]]), NoMachine)
        self.assertIs(refusal(machine_of, 0, [two[:1], two]), NoMachine)
        self.assertIs(refusal(machine_of, 0, [two, two, two + [(0, 0)]]), NoMachine)
        self.assertIsNone(refusal(machine_of, 0, [two, two]))

    def test_a_start_that_is_no_state(self):
        for start in (1, 2, FAR, -1, -2, -FAR, True):
            self.assertIs(refusal(machine_of, start, [[(0, 0)]]), NoMachine, start)
        for start in (2, -1, -2):
            self.assertIs(refusal(machine_of, start, [[(0, 0)], [(0, 1)]]), NoMachine, start)

    def test_a_next_that_is_no_state(self):
        for goal in (2, FAR, -1, -2, -FAR, True, None):
            self.assertIs(refusal(machine_of, 0, [[(0, 0), (0, 1)], [(0, 0), (0, goal)]]), NoMachine, goal)
            self.assertIs(refusal(machine_of, 0, [[(0, goal), (0, 1)], [(0, 0), (0, 0)]]), NoMachine, goal)

    def test_a_next_that_the_start_does_not_come_to_counts_too(self):
        self.assertIs(refusal(machine_of, 0, [[(0, 0)], [(0, 2)]]), NoMachine)


class ToldTest(unittest.TestCase):
    def test_no_asks(self):
        self.assertEqual(told(ONE, []), [])
        self.assertEqual(told(COUNTS, []), [])

    def test_answers_from_the_start_on(self):
        self.assertEqual(told(COUNTS, [0, 1, 0, 1, 0, 1, 0]), [0, 9, 1, 9, 2, 9, 2])
        self.assertEqual(told((1, COUNTS[1]), [0, 1, 0]), [1, 9, 2])

    def test_many_asks(self):
        self.assertEqual(told(ONE, [0] * 400), [7] * 400)
        source = random.Random(32)
        for machine in small_machines(40, 320) + [great_machine(), chain_machine(160, 8)]:
            asks = [source.randrange(len(machine[1][0])) for ask in range(400)]
            self.assertEqual(told(machine, asks), answers_from(machine[1], machine[0], asks))

    def test_no_ask(self):
        for wrong in (2, 3, FAR, -1, -2, -FAR, True):
            for asks in ([wrong], [0, 1, wrong], [wrong, 0], [1, wrong, 0]):
                self.assertIs(refusal(told, COUNTS, asks), NoAsk, asks)
        self.assertIs(refusal(told, great_machine(), [0, 7, 8]), NoAsk)
        self.assertIs(refusal(told, ONE, [0, 0, 1]), NoAsk)


class RunnerTest(unittest.TestCase):
    def test_at_first_in_the_start(self):
        self.assertEqual(Runner(COUNTS).state, 0)
        self.assertEqual(Runner((2, COUNTS[1])).state, 2)

    def test_step_by_step(self):
        runner = Runner(COUNTS)
        found = [(runner.step(ask), runner.state) for ask in (0, 1, 0, 1, 1, 0)]
        self.assertEqual(found, [(0, 0), (9, 1), (1, 1), (9, 2), (9, 2), (2, 2)])

    def test_refused_it_stays(self):
        runner = Runner(COUNTS)
        runner.step(1)
        for wrong in (2, 8, FAR, -1, -2, -FAR, True):
            self.assertIs(refusal(runner.step, wrong), NoAsk, wrong)
            self.assertEqual(runner.state, 1)
        self.assertEqual((runner.step(0), runner.step(1), runner.state), (1, 9, 2))

    def test_two_of_one_machine(self):
        one = Runner(COUNTS)
        other = Runner(COUNTS)
        one.step(1)
        self.assertEqual((one.state, other.state), (1, 0))
        self.assertEqual((one.step(0), other.step(0)), (1, 0))
        self.assertEqual(told(COUNTS, [0]), [0])

    def test_as_told(self):
        source = random.Random(33)
        for machine in small_machines(40, 321) + [great_machine(), chain_machine(160, 8)]:
            asks = [source.randrange(len(machine[1][0])) for ask in range(200)]
            runner = Runner(machine)
            self.assertEqual([runner.step(ask) for ask in asks], told(machine, asks))


class ApartTest(unittest.TestCase):
    def test_a_state_and_itself(self):
        for machine in small_machines(30, 330) + [great_machine(), chain_machine(160, 8)]:
            for state in range(len(machine[1])):
                self.assertIsNone(apart(machine, state, state))
                if state > 3:
                    break

    def test_the_shortest_row(self):
        self.assertEqual(apart(COUNTS, 0, 1), [0])
        self.assertEqual(apart(COUNTS, 1, 2), [0])
        # Ask 0 never tells them apart, and ask 1 only the second time.
        machine = machine_of(0, [[(0, 0), (5, 2)], [(0, 1), (5, 3)], [(0, 2), (5, 2)], [(0, 3), (6, 3)]])
        self.assertEqual(apart(machine, 0, 1), [1, 1])
        self.assertEqual(apart(machine, 1, 0), [1, 1])

    def test_a_short_row_goes_ahead_of_lesser_numbers(self):
        machine = machine_of(0, [[(0, 2), (1, 0)], [(0, 3), (2, 1)], [(3, 2), (0, 2)], [(4, 3), (0, 3)]])
        self.assertEqual(apart(machine, 0, 1), [1])

    def test_of_several_the_first_from_the_left(self):
        machine = machine_of(0, [
            [(0, 2), (0, 3), (0, 3)], [(0, 2), (0, 4), (0, 4)],
            [(0, 2), (0, 2), (0, 2)], [(0, 3), (1, 3), (1, 3)], [(0, 4), (2, 4), (2, 4)],
        ])
        self.assertEqual(apart(machine, 0, 1), [1, 1])
        # A difference behind a lesser ask counts first, though its own ask is greater.
        machine = machine_of(0, [
            [(0, 2), (0, 3)], [(0, 4), (0, 5)],
            [(0, 2), (1, 2)], [(1, 3), (0, 3)], [(0, 4), (0, 4)], [(0, 5), (0, 5)],
        ])
        self.assertEqual(apart(machine, 0, 1), [0, 1])

    def test_not_apart(self):
        machine = machine_of(0, [[(1, 1), (2, 0)], [(1, 0), (2, 2)], [(1, 2), (2, 1)]])
        for one, other in itertools.product(range(3), repeat=2):
            self.assertIsNone(apart(machine, one, other))

    def test_by_the_words(self):
        found = []
        for machine in small_machines(250, 331):
            count = len(machine[1])
            for one, other in itertools.product(range(count), repeat=2):
                # Those that no row shorter than this tells apart are not apart.
                told_row = apart(machine, one, other)
                self.assertEqual(told_row, apart_by_the_words(machine[1], one, machine[1], other, count - 1))
                found.append(told_row)
        self.assertGreater(found.count(None), 300)
        self.assertGreater(len([row for row in found if row and len(row) > 1]), 60)

    def test_greatest_machines(self):
        chain = chain_machine(160, 8)
        self.assertEqual(apart(chain, 0, 1), [7] * 158 + [0])
        self.assertEqual(apart(chain, 158, 0), [7, 0])
        self.assertEqual(apart(chain, 3, 159), [0])
        great = great_machine()
        for one, other in ((0, 1), (17, 99), (158, 159)):
            self.assertEqual(apart(great, one, other), apart_by_the_words(great[1], one, great[1], other, 3))
        same = machine_of(3, [[(4, (state * 7 + ask) % 160) for ask in range(8)] for state in range(160)])
        self.assertIsNone(apart(same, 0, 159))


class DifferTest(unittest.TestCase):
    def test_by_the_states_in_which_they_start(self):
        self.assertIsNone(differ(COUNTS, COUNTS))
        self.assertEqual(differ(COUNTS, (1, COUNTS[1])), [0])
        self.assertEqual(differ((2, COUNTS[1]), (1, COUNTS[1])), [0])
        for one, other in itertools.product(range(3), repeat=2):
            self.assertEqual(differ((one, COUNTS[1]), (other, COUNTS[1])), apart(COUNTS, one, other))

    def test_unlike_numbers_of_states(self):
        twice = machine_of(1, [[(7, 1)], [(7, 0)]])
        self.assertIsNone(differ(ONE, twice))
        self.assertIsNone(differ(twice, ONE))
        third = machine_of(2, [[(8, 0)], [(7, 0)], [(7, 1)]])
        self.assertEqual(differ(ONE, third), [0, 0, 0])
        self.assertEqual(differ(third, twice), [0, 0, 0])

    def test_unlike_numbers_of_asks(self):
        self.assertIs(refusal(differ, ONE, COUNTS), NoMachine)
        self.assertIs(refusal(differ, COUNTS, ONE), NoMachine)
        self.assertIs(refusal(differ, great_machine(), COUNTS), NoMachine)

    def test_by_the_words(self):
        source = random.Random(34)
        found = []
        for number in range(250):
            asks = source.randint(1, 2)
            one = random_machine(source, source.randint(1, 3), asks, [0, 1])
            other = random_machine(source, source.randint(1, 3), asks, [0, 1])
            longest = len(one[1]) + len(other[1])
            told_row = differ(one, other)
            self.assertEqual(told_row, apart_by_the_words(one[1], one[0], other[1], other[0], longest))
            found.append(told_row)
        self.assertGreater(found.count(None), 10)
        self.assertGreater(len([row for row in found if row and len(row) > 1]), 30)

    def test_greatest_machines(self):
        great = great_machine()
        self.assertIsNone(differ(great, great))
        chain = chain_machine(160, 8)
        self.assertEqual(differ(chain, (1, chain[1])), [7] * 158 + [0])
        self.assertEqual(differ(chain, chain_machine(159, 8)), [7] * 158 + [0])
        dull = machine_of(0, [[(0, 0)] * 8])
        self.assertEqual(differ(chain, dull), [7] * 159 + [0])
        self.assertEqual(differ(dull, chain), [7] * 159 + [0])


class LeastMachineTest(unittest.TestCase):
    def check(self, machine):
        least = least_machine(machine)
        self.assertIs(type(least), tuple)
        start, rows = least
        self.assertEqual(machine_of(start, rows), least)
        self.assertEqual(start, 0)
        self.assertIsNone(differ(machine, least))
        self.assertEqual(least_machine(least), least)
        self.assertEqual(self.order(least), list(range(len(rows))))
        return least

    def order(self, machine):
        """The states in the order in which they are come to first."""
        start, rows = machine
        seen = [start]
        for state in seen:
            for answer, goal in rows[state]:
                if goal not in seen:
                    seen.append(goal)
        return seen

    def test_one_state(self):
        self.assertEqual(least_machine(ONE), ONE)

    def test_states_that_are_not_come_to_are_left_out(self):
        machine = machine_of(2, [[(5, 1)], [(6, 0)], [(4, 2)]])
        self.assertEqual(least_machine(machine), (0, [[(4, 0)]]))
        self.assertEqual(least_machine((0, machine[1])), (0, [[(5, 1)], [(6, 0)]]))
        self.assertEqual(least_machine((1, machine[1])), (0, [[(6, 1)], [(5, 0)]]))

    def test_states_that_are_not_apart_are_one(self):
        machine = machine_of(0, [[(1, 1), (2, 0)], [(1, 0), (2, 2)], [(1, 2), (2, 1)]])
        self.assertEqual(least_machine(machine), (0, [[(1, 0), (2, 0)]]))
        self.assertEqual(least_machine(machine_of(1, [[(7, 1)], [(7, 0)]])), ONE)

    def test_numbered_in_the_order_in_which_they_are_come_to(self):
        machine = machine_of(3, [
            [(0, 3), (9, 0)], [(1, 2), (9, 4)], [(2, 0), (9, 3)], [(3, 4), (9, 1)], [(4, 4), (9, 2)],
        ])
        # First 3, then by its asks 4 and 1, then 2 by an ask of 4, then 0.
        self.assertEqual(least_machine(machine), (0, [
            [(3, 1), (9, 2)], [(4, 1), (9, 3)], [(1, 3), (9, 1)], [(2, 4), (9, 0)], [(0, 0), (9, 4)],
        ]))

    def test_no_more_states_than_there_are_apart(self):
        for machine in small_machines(250, 340):
            rows = self.check(machine)[1]
            reach = self.order(machine)
            alike = {
                tuple(apart_by_the_words(machine[1], one, machine[1], other, len(machine[1]) - 1) is None
                      for other in reach)
                for one in reach
            }
            self.assertEqual(len(rows), len(alike))
            for one, other in itertools.combinations(range(len(rows)), 2):
                self.assertIsNotNone(apart((0, rows), one, other))

    def test_not_apart_just_where_the_least_machines_are_the_same(self):
        source = random.Random(35)
        same = 0
        for number in range(250):
            asks = source.randint(1, 2)
            one = random_machine(source, source.randint(1, 3), asks, [0, 1])
            other = random_machine(source, source.randint(1, 3), asks, [0, 1])
            self.assertEqual(differ(one, other) is None, least_machine(one) == least_machine(other))
            same += least_machine(one) == least_machine(other)
            again = scrambled(source, one)
            self.assertIsNone(differ(one, again))
            self.assertEqual(self.check(again), least_machine(one))
        self.assertIn(same, range(10, 240))

    def test_greatest_machines(self):
        self.assertEqual(len(self.check(great_machine())[1]), 160)
        chain = chain_machine(160, 8)
        self.assertEqual(self.check(chain), chain)
        self.assertEqual(len(self.check((150, chain[1]))[1]), 10)
        same = machine_of(3, [[(4, (state * 7 + ask) % 160) for ask in range(8)] for state in range(160)])
        self.assertEqual(self.check(same), (0, [[(4, 0)] * 8]))
        half = scrambled(random.Random(36), random_machine(random.Random(37), 79, 8, [0, 1]))
        self.assertEqual(len(half[1]), 160)
        self.assertLessEqual(len(self.check(half)[1]), 79)


if __name__ == "__main__":
    unittest.main()
