"""Points 29 to 31: marks in turn, and plays that keep to a memory."""

import itertools
import random
import unittest

from rankgarth.cuts import solved
from rankgarth.errors import NoPlace, TooMany
from rankgarth.games import game_of
from rankgarth.turns import in_turn, turn_game, went
from tests.samples import check_solved, line_game, random_games, random_places, refusal, small_games

FAR = 10 ** 59

PAIR = game_of([(0, 3, [0, 1]), (1, 8, [0, 1])])
FORK = game_of([(0, 0, [1, 2]), (0, 0, [0]), (0, 0, [0])])


def random_lists(source, count, most):
    return [random_places(source, count) for number in range(source.randint(0, most))]


def small_cases(many, most_places, most_lists, seed):
    source = random.Random(seed)
    return [
        (game, random_lists(source, len(game), most_lists), random_lists(source, len(game), most_lists))
        for game in random_games(many, most_places, list(range(41)), seed)
    ]


def just_cases():
    """Just 160 places of the turn game, by many places, many hopes, many marks, and some of each."""
    source = random.Random(30)
    every = [(160, 0, 0), (160, 1, 1), (80, 2, 1), (80, 0, 2), (40, 2, 2), (16, 2, 5), (10, 4, 4), (8, 20, 0),
             (5, 0, 32), (4, 5, 8), (2, 8, 10), (1, 160, 1), (1, 1, 160), (1, 10, 16)]
    cases = []
    for count, hopes, marks in every:
        rows = [(source.randrange(2), source.randrange(3), random_places(source, count)[:4] + [source.randrange(count)])
                for place in range(count)]
        lists = [random_places(source, count) + [source.randrange(count)] for number in range(hopes + marks)]
        cases.append((game_of(rows), lists[:hopes], lists[hopes:]))
    return cases


def goes_on(lists, turn, place):
    """The turn as it becomes, and whether it went round: by the words of point 30."""
    if not lists:
        return (0, True)
    if place not in lists[turn]:
        return (turn, False)
    if turn + 1 == len(lists):
        return (0, True)
    return (turn + 1, False)


def turn_game_by_the_words(game, hopes, marks):
    wide = len(hopes) or 1
    deep = len(marks) or 1
    count = len(game)
    told = {}
    for place, i, j in itertools.product(range(count), range(wide), range(deep)):
        hand, rank, ways = game[place]
        next_i, i_round = goes_on(hopes, i, place)
        next_j, j_round = goes_on(marks, j, place)
        rank = 2 if j_round else 1 if i_round else 0
        outs = sorted((next_i * deep + next_j) * count + way for way in ways)
        told[(i * deep + j) * count + place] = (hand, rank, outs)
    return [told[number] for number in range(wide * deep * count)]


def steps_left(game, hand, memory, node):
    """What a play that keeps to the memory may do next, from a place in a state."""
    place, state = node
    way, after = memory[1][state][place]
    if game[place][0] == hand and way is not None:
        return [(way, after)]
    return [(out, after) for out in game[place][2]]


def nodes_behind(game, hand, memory, starts):
    nodes = [(start, memory[0]) for start in starts]
    seen = set(nodes)
    for node in nodes:
        for step in steps_left(game, hand, memory, node):
            if step not in seen:
                seen.add(step)
                nodes.append(step)
    return nodes


def rings_met(game, hand, memory, node, bits):
    """For each lasso whose ring begins at this place and state, which lists its ring meets."""
    seen = set()
    edge = [(node, 0)]
    met = set()
    while edge:
        (place, state), mask = edge.pop()
        mask |= bits[place]
        for step in steps_left(game, hand, memory, (place, state)):
            if step == node:
                met.add(mask)
            if (step, mask) not in seen:
                seen.add((step, mask))
                edge.append((step, mask))
    return met


class TurnGameTest(unittest.TestCase):
    def check(self, game, hopes, marks):
        told = turn_game(game, hopes, marks)
        self.assertEqual(told, turn_game_by_the_words(game, hopes, marks))
        self.assertEqual(game_of(told), told)
        return told

    def test_place_by_place(self):
        told = turn_game(PAIR, [[0], [1]], [[1], [0, 1]])
        # Numbered (2 i + j) 2 + v.
        self.assertEqual(told, [
            (0, 0, [4, 5]), (1, 0, [2, 3]),    # i 0, j 0
            (0, 2, [4, 5]), (1, 2, [0, 1]),    # i 0, j 1
            (0, 0, [4, 5]), (1, 1, [2, 3]),    # i 1, j 0
            (0, 2, [4, 5]), (1, 2, [0, 1]),    # i 1, j 1
        ])

    def test_neither_hopes_nor_marks(self):
        self.assertEqual(turn_game(PAIR, [], []), [(0, 2, [0, 1]), (1, 2, [0, 1])])

    def test_no_hopes(self):
        self.assertEqual(turn_game(PAIR, [], [[1]]), [(0, 1, [0, 1]), (1, 2, [0, 1])])
        self.assertEqual(turn_game(PAIR, [], [[1], [0]]), [
            (0, 1, [0, 1]), (1, 1, [2, 3]), (0, 2, [0, 1]), (1, 1, [2, 3]),
        ])

    def test_no_marks(self):
        self.assertEqual(turn_game(PAIR, [[1], [0]], []), [
            (0, 2, [0, 1]), (1, 2, [2, 3]), (0, 2, [0, 1]), (1, 2, [2, 3]),
        ])

    def test_lists_without_places(self):
        self.assertEqual(turn_game(PAIR, [[]], [[]]), [(0, 0, [0, 1]), (1, 0, [0, 1])])
        self.assertEqual(turn_game(PAIR, [], [[]]), [(0, 1, [0, 1]), (1, 1, [0, 1])])
        self.assertEqual(turn_game(PAIR, [[]], [[0]]), [(0, 2, [0, 1]), (1, 0, [0, 1])])
        # It stays where it is waited for in vain.
        self.assertEqual(turn_game(PAIR, [], [[0, 1], []]), [
            (0, 1, [2, 3]), (1, 1, [2, 3]), (0, 1, [2, 3]), (1, 1, [2, 3]),
        ])

    def test_no_places(self):
        self.assertEqual(turn_game([], [], []), [])
        self.assertEqual(turn_game([], [[], []], [[]]), [])
        self.assertEqual(turn_game([], [[]] * 200, [[]] * 200), [])

    def test_any_order_and_places_twice(self):
        game = game_of([(place % 2, 0, [0, 1, 2, 3]) for place in range(4)])
        plain = turn_game(game, [[0, 1], [2]], [[1, 3], [0, 2, 3]])
        self.assertEqual(turn_game(game, [[1, 0, 1], [2, 2]], [[3, 1, 3, 1], [2, 0, 3, 0]]), plain)
        self.assertNotEqual(turn_game(game, [[2], [0, 1]], [[1, 3], [0, 2, 3]]), plain)

    def test_ranks_do_not_matter(self):
        for game, hopes, marks in small_cases(60, 6, 3, 31):
            flat = game_of([(hand, 0, ways) for hand, rank, ways in game])
            self.assertEqual(turn_game(game, hopes, marks), turn_game(flat, hopes, marks))
            self.assertEqual(in_turn(game, hopes, marks)[0], in_turn(flat, hopes, marks)[0])

    def test_by_the_words(self):
        for game in small_games():
            self.check(game, [], [])
        for game, hopes, marks in small_cases(200, 6, 4, 32):
            self.check(game, hopes, marks)

    def test_just_160_places(self):
        for game, hopes, marks in just_cases():
            self.assertEqual(len(self.check(game, hopes, marks)), 160)


class RefusedTest(unittest.TestCase):
    def refused(self, error, game, hopes, marks):
        self.assertIs(refusal(turn_game, game, hopes, marks), error, (hopes, marks))
        self.assertIs(refusal(in_turn, game, hopes, marks), error, (hopes, marks))

    def test_too_many(self):
        for count, hopes, marks in ((23, 7, 0), (23, 0, 7), (23, 1, 7), (41, 2, 2), (81, 1, 2), (160, 2, 0), (160, 0, 2),
                                    (1, 7, 23), (1, 161, 1), (2, 400, 400), (160, 400, 400)):
            self.refused(TooMany, line_game(count, 0, 0), [[0]] * hopes, [[0]] * marks)
        # A list counts though no place is in it.
        self.refused(TooMany, line_game(54, 0, 0), [[]] * 3, [])

    def test_no_place(self):
        for wrong in (2, 3, 160, FAR, -1, -2, -FAR):
            for places in ([wrong], [0, 1, wrong], [wrong, 0], [0, wrong, wrong, 1]):
                self.refused(NoPlace, PAIR, [places], [])
                self.refused(NoPlace, PAIR, [], [places])
                self.refused(NoPlace, PAIR, [[0], [1], places], [[1]])
                self.refused(NoPlace, PAIR, [[1]], [[], [0], places])
        self.refused(NoPlace, [], [[0]], [])
        self.refused(NoPlace, [], [[]], [[], [0]])

    def test_too_many_goes_ahead_of_no_place(self):
        for wrong in (-1, 23, FAR):
            self.refused(TooMany, line_game(23, 1, 0), [[wrong]] * 7, [])
            self.refused(TooMany, line_game(23, 1, 0), [[0]] * 7, [[wrong]])
            self.refused(NoPlace, line_game(23, 1, 0), [[0]] * 6, [[wrong]])

    def test_a_truth_is_no_place(self):
        self.refused(NoPlace, PAIR, [[True]], [])
        self.refused(NoPlace, PAIR, [], [[0, False]])


class InTurnTest(unittest.TestCase):
    def check_form(self, game, hand, most, memory):
        self.assertIs(type(memory), tuple)
        start, rows = memory
        self.assertIs(type(start), int)
        self.assertIn(start, range(len(rows)))
        self.assertIn(len(rows), range(1, most + 1))
        for row in rows:
            self.assertEqual(len(row), len(game))
            for (owner, rank, ways), step in zip(game, row):
                self.assertIs(type(step), tuple)
                way, after = step
                self.assertIs(type(after), int)
                self.assertIn(after, range(len(rows)))
                if owner == hand and way is not None:
                    self.assertIs(type(way), int)
                    self.assertIn(way, ways)
                else:
                    self.assertIsNone(way)

    def check(self, game, hopes, marks, rings=True):
        told = in_turn(game, hopes, marks)
        self.assertIs(type(told), tuple)
        self.assertEqual(len(told), 3)
        self.assertEqual(len(told[0]), len(game))
        for winner in told[0]:
            self.assertIs(type(winner), int)
            self.assertIn(winner, (0, 1))
        for hand in (0, 1):
            memory = told[1 + hand]
            self.check_form(game, hand, (len(hopes) or 1) * (len(marks) or 1), memory)
            own = [place for place, winner in enumerate(told[0]) if winner == hand]
            nodes = nodes_behind(game, hand, memory, own)
            self.assertLessEqual({place for place, state in nodes}, set(own))
            if rings:
                self.check_rings(game, hopes, marks, hand, memory, nodes)
        return told[0]

    def check_rings(self, game, hopes, marks, hand, memory, nodes):
        lists = hopes + marks
        bits = [sum(1 << number for number, one in enumerate(lists) if place in one) for place in range(len(game))]
        for node in nodes:
            for mask in rings_met(game, hand, memory, node, bits):
                met = [mask >> number & 1 == 1 for number in range(len(lists))]
                won = 0 if all(met[len(hopes):]) or not all(met[:len(hopes)]) else 1
                self.assertEqual(won, hand, (game, hopes, marks, node))

    def test_no_places(self):
        for hopes, marks in (([], []), ([[]], [[]]), ([[], []], [[], [], []])):
            hands, first, second = in_turn([], hopes, marks)
            self.assertEqual(hands, [])
            self.check([], hopes, marks)
            self.assertEqual(went([], 0, first, 0, []), [0])

    def test_no_marks_are_won_by_hand_0(self):
        for game in small_games() + random_games(40, 6, [0, 1], 33):
            count = len(game)
            for hopes in ([], [[]], [list(range(count))], [[0] if count else [], []]):
                self.assertEqual(self.check(game, hopes, []), [0] * count)

    def test_no_hopes_leave_the_marks(self):
        self.assertEqual(self.check(FORK, [], [[1], [2]]), [0, 0, 0])
        other = game_of([(1, 0, [1, 2]), (0, 0, [0]), (0, 0, [0])])
        self.assertEqual(self.check(other, [], [[1], [2]]), [1, 1, 1])
        self.assertEqual(self.check(other, [], [[2, 1]]), [0, 0, 0])

    def test_a_list_of_marks_without_places_is_never_met(self):
        self.assertEqual(self.check(FORK, [], [[]]), [1, 1, 1])
        self.assertEqual(self.check(FORK, [], [[0], [], [1]]), [1, 1, 1])
        self.assertEqual(self.check(FORK, [[1]], [[]]), [0, 0, 0])
        self.assertEqual(self.check(FORK, [[0]], [[]]), [1, 1, 1])

    def test_a_list_of_hopes_without_places_is_never_met(self):
        self.assertEqual(self.check(FORK, [[]], [[]]), [0, 0, 0])
        self.assertEqual(self.check(FORK, [[0], [], [1]], [[]]), [0, 0, 0])

    def test_each_hope_counts(self):
        other = game_of([(1, 0, [1, 2]), (0, 0, [0]), (0, 0, [0])])
        # Hand 1 has to meet both hopes, and so meets the mark.
        self.assertEqual(self.check(other, [[1], [2]], [[1]]), [0, 0, 0])
        self.assertEqual(self.check(other, [[2]], [[1]]), [1, 1, 1])

    def test_a_memory_is_needed(self):
        hands, memory, other = in_turn(FORK, [], [[1], [2]])
        play = went(FORK, 0, memory, 0, [0] * 400)
        for place in (1, 2):
            self.assertIn(place, play[300:])

    def test_each_hand_wins_some(self):
        game = game_of([(0, 0, [0, 1]), (1, 0, [2]), (1, 0, [1, 3]), (0, 0, [3])])
        self.assertEqual(self.check(game, [], [[0, 3]]), [0, 1, 1, 0])

    def test_small_games_by_all_lassos(self):
        winners = []
        for game, hopes, marks in small_cases(500, 5, 3, 34):
            winners += self.check(game, hopes, marks)
        self.assertGreater(winners.count(0), 200)
        self.assertGreater(winners.count(1), 200)

    def test_small_games_with_lists_that_are_met(self):
        source = random.Random(35)
        winners = []
        for game in random_games(150, 6, [0], 36):
            hopes = [[source.randrange(len(game))] for number in range(source.randint(1, 3))]
            marks = [[source.randrange(len(game))] for number in range(source.randint(1, 3))]
            winners += self.check(game, hopes, marks)
        self.assertGreater(winners.count(0), 100)
        self.assertGreater(winners.count(1), 50)

    def test_one_list_each_by_all_rules(self):
        # With one list of each no memory is needed: so each rule of hand 0 can be tried.
        source = random.Random(37)
        for game in random_games(120, 4, [0], 38):
            hopes = [random_places(source, len(game))]
            marks = [random_places(source, len(game))]
            hands = [1] * len(game)
            for rule in itertools.product(*[ways if hand == 0 else [None] for hand, rank, ways in game]):
                memory = (0, [[(way, 0) for way in rule]])
                bits = [(place in hopes[0]) + 2 * (place in marks[0]) for place in range(len(game))]
                for start in range(len(game)):
                    nodes = nodes_behind(game, 0, memory, [start])
                    # Lost by a ring that meets the hope and not the mark.
                    if not [node for node in nodes if 1 in rings_met(game, 0, memory, node, bits)]:
                        hands[start] = 0
            self.assertEqual(in_turn(game, hopes, marks)[0], hands)

    def test_the_turn_game_is_won_alike(self):
        for game, hopes, marks in small_cases(60, 6, 3, 39) + just_cases():
            turns = turn_game(game, hopes, marks)
            told = solved(turns)
            check_solved(self, turns, told)
            states = (len(hopes) or 1) * (len(marks) or 1)
            self.assertEqual(in_turn(game, hopes, marks)[0] * states, told[0])

    def test_just_160_places(self):
        for game, hopes, marks in just_cases():
            self.check(game, hopes, marks, len(hopes + marks) <= 4)

    def test_many_marks_are_met_in_turn(self):
        game = game_of([(0, 0, list(range(1, 13)))] + [(1, 0, [0])] * 12)
        hands, memory, other = in_turn(game, [], [[place] for place in range(1, 13)])
        self.assertEqual(hands, [0] * 13)
        play = went(game, 0, memory, 0, [0] * 400)
        for place in range(1, 13):
            self.assertGreater(play[200:].count(place), 5)


def went_by_the_words(game, hand, memory, start, picks):
    play = [start]
    state = memory[0]
    for pick in picks:
        owner, rank, ways = game[play[-1]]
        way, after = memory[1][state][play[-1]]
        by_memory = owner == hand and way is not None
        play.append(way if by_memory else ways[pick - len(ways) * (pick // len(ways))])
        state = after
    return play


class WentTest(unittest.TestCase):
    def test_no_picks(self):
        self.assertEqual(went(PAIR, 0, (0, [[(None, 0), (None, 0)]]), 1, []), [1])

    def test_the_state_goes_on_whoever_went(self):
        # State 0 tells place 0 to stay, state 1 to leave; hand 1's place leads to state 0.
        memory = (0, [[(0, 1), (None, 0)], [(1, 1), (None, 0)]])
        self.assertEqual(went(PAIR, 0, memory, 0, [9, 9, 1, 0, 9, 9]), [0, 0, 1, 1, 0, 0, 1])
        # Where hand 1 goes by the picks, the state is the next one of its place all the same.
        memory = (0, [[(0, 0), (None, 1)], [(1, 1), (None, 0)]])
        self.assertEqual(went(PAIR, 0, memory, 1, [0, 0, 1, 0, 0]), [1, 0, 1, 1, 0, 1])

    def test_the_start_need_not_be_state_0(self):
        memory = (1, [[(0, 0), (None, 0)], [(1, 0), (None, 0)]])
        self.assertEqual(went(PAIR, 0, memory, 0, [0, 0, 0, 0]), [0, 1, 0, 0, 0])

    def test_where_no_way_is_told_the_picks_tell(self):
        memory = (0, [[(None, 1), (None, 0)], [(0, 0), (None, 0)]])
        self.assertEqual(went(PAIR, 0, memory, 0, [0, 1, 1, 0, 1]), [0, 0, 0, 1, 0, 1])

    def test_a_way_at_the_other_hands_place_is_passed_over(self):
        memory = (0, [[(1, 0), (1, 0)]])
        self.assertEqual(went(PAIR, 0, memory, 0, [0, 0, 0, 1]), [0, 1, 0, 1, 1])
        self.assertEqual(went(PAIR, 1, memory, 0, [0, 0, 1, 0, 0]), [0, 0, 0, 1, 1, 1])

    def test_picks_above_and_below_nought(self):
        game = game_of([(1, 0, [0, 1, 2]), (0, 0, [0, 1, 2]), (1, 0, [0, 1, 2])])
        memory = (0, [[(None, 0)] * 3])
        self.assertEqual(went(game, 0, memory, 0, [1, 3, 5, -1, -2, -3, -4]), [0, 1, 0, 2, 2, 1, 0, 2])
        self.assertEqual((FAR % 3, -FAR % 3), (1, 2))
        self.assertEqual(went(game, 0, memory, 0, [FAR, -FAR]), [0, 1, 2])

    def test_by_the_words(self):
        source = random.Random(31)
        for game, hopes, marks in small_cases(60, 6, 3, 40) + just_cases():
            picks = [source.randint(-FAR, FAR) for pick in range(source.choice((3, 400)))]
            start = source.randrange(len(game))
            told = in_turn(game, hopes, marks)
            for hand in (0, 1):
                states = source.randint(1, 4)
                rows = [[(source.choice(row[2] + [None]), source.randrange(states)) for row in game]
                        for state in range(states)]
                for memory in (told[1 + hand], told[2 - hand], (source.randrange(states), rows)):
                    play = went(game, hand, memory, start, picks)
                    self.assertEqual(play, went_by_the_words(game, hand, memory, start, picks))
                    self.assertEqual(len(play), len(picks) + 1)

    def test_a_play_by_the_winners_memory_stays_in_what_it_wins(self):
        source = random.Random(32)
        for game, hopes, marks in small_cases(60, 6, 3, 41) + just_cases():
            told = in_turn(game, hopes, marks)
            start = source.randrange(len(game))
            hand = told[0][start]
            play = went(game, hand, told[1 + hand], start, [source.randrange(9) for pick in range(300)])
            self.assertEqual({told[0][place] for place in play}, {hand})


if __name__ == "__main__":
    unittest.main()
