"""Point 2: nothing handed in is changed, and what is told is the asker's own."""

import copy
import random
import unittest

from rankgarth.cuts import cuts, hand_rule, solved
from rankgarth.errors import GarthError
from rankgarth.games import game_of, thinned, turned, ways_in
from rankgarth.needs import betterings, needs, solved_purses
from rankgarth.pulls import keep_ways, kept, pull_ways, pulled, reached
from rankgarth.purses import is_enough, need_by, purse_game, turned_purses
from rankgarth.rings import fixed, lasso, loops, played, ring_hand, wrong_ring
from rankgarth.roads import amounts_of, is_paper, papers, solved_by_purses
from tests.samples import great_games, great_purse_games, random_rule, small_purse_games


def game_calls(game):
    source = random.Random(2)
    count = len(game)
    goal = [count - 1, 0, count - 1]
    part = [place for place in range(count) if place % 5 < 4] + [0]
    calls = [(game_of, [[(row[0], row[1], row[2][::-1] + row[2][:1]) for row in game]])]
    calls += [(game_of, [game]), (ways_in, [game]), (thinned, [game])]
    if max(row[1] for row in game) < 40 and (count <= 16 or max(row[1] for row in game) < 2):
        calls.append((turned, [game]))
    for hand in (0, 1):
        rule = random_rule(source, game, hand)
        calls += [
            (pulled, [game, hand, goal]), (pulled, [game, hand, goal, part]),
            (pull_ways, [game, hand, goal]), (pull_ways, [game, hand, goal, part]),
            (kept, [game, hand, part]), (keep_ways, [game, hand, part]),
            (kept, [game, hand, goal]), (keep_ways, [game, hand, goal]),
            (fixed, [game, hand, rule]), (fixed, [game, hand, [None] * count]),
            (wrong_ring, [game, hand]), (lasso, [game, hand, count - 1]), (lasso, [game, hand, 0]),
            (played, [game, hand, rule, 0, [7, -3, 10 ** 59, 0]]), (played, [game, hand, rule, 0, []]),
            (ring_hand, [game, [0]]),
        ]
    calls += [(reached, [game, goal]), (reached, [game, []])]
    calls += [(loops, [[3, 1, 3, 4, 1, -9, 1]]), (loops, [[1, 2, 3]])]
    calls += [(solved, [game]), (cuts, [game])]
    calls += [(hand_rule, [game, solved(game)[1], hand]) for hand in (0, 1)]
    if count <= 16:
        calls += [(amounts_of, [game]), (papers, [game]), (solved_by_purses, [game])]
        calls += [(is_paper, [game, hand, papers(game)[hand]]) for hand in (0, 1)]
    return calls


def purse_calls(game):
    table = solved_purses(game)[0]
    calls = [(purse_game, [[(row[0], row[1][::-1]) for row in game]]), (purse_game, [game])]
    calls += [(need_by, [table, 0, 5]), (is_enough, [game, table]), (is_enough, [game, [None] * len(game)])]
    calls += [(betterings, [game]), (solved_purses, [game])]
    calls.append((needs, [game, [row[1][-1][0] if row[0] == 1 else None for row in game]]))
    if max(abs(amount) for hand, ways in game for place, amount in ways) < 10 ** 58:
        calls.append((turned_purses, [game]))
    return calls


def all_calls():
    small = game_of([(0, 3, [1, 2]), (1, 4, [0, 1]), (0, 1, [0, 2, 3]), (1, 0, [2, 3])])
    low = game_of([(place % 2, place % 2, [place, 159 - place]) for place in range(160)])
    calls = []
    for game in [small, low] + great_games():
        calls += game_calls(game)
    for game in small_purse_games() + great_purse_games():
        if game:
            calls += purse_calls(game)
    return calls


def lists_within(value):
    found = []
    if isinstance(value, list):
        found.append(value)
    if isinstance(value, (list, tuple)):
        for part in value:
            found += lists_within(part)
    return found


def spoil(value):
    for one in lists_within(value):
        one.reverse()
        one.append(99)
        one[0] = -5


class OwnTest(unittest.TestCase):
    def test_nothing_handed_in_is_changed(self):
        for call, args in all_calls():
            before = copy.deepcopy(args)
            call(*args)
            self.assertEqual(args, before, call.__name__)

    def test_what_was_told_changes_no_later_answer(self):
        for call, args in all_calls():
            told = call(*args)
            before = copy.deepcopy(told)
            spoil(told)
            self.assertEqual(call(*args), before, call.__name__)

    def test_what_was_handed_in_changes_nothing_told(self):
        for call, args in all_calls():
            args = copy.deepcopy(args)
            told = call(*args)
            before = copy.deepcopy(told)
            spoil(args)
            self.assertEqual(told, before, call.__name__)

    def test_a_later_call_changes_nothing_told(self):
        calls = all_calls()
        told = [call(*args) for call, args in calls]
        before = copy.deepcopy(told)
        for call, args in calls:
            call(*args)
        self.assertEqual(told, before)

    def test_no_list_is_told_twice_or_handed_back(self):
        for call, args in all_calls():
            # Kept until the end, so that no two things have the same id.
            answer = call(*args)
            told = [id(one) for one in lists_within(answer)]
            handed = [id(one) for one in lists_within(args)]
            self.assertEqual(len(set(told)), len(told), call.__name__)
            self.assertEqual(set(told) & set(handed), set(), call.__name__)

    def test_refusals_change_nothing(self):
        game = purse_game([(1, [(0, 10 ** 60 - 1), (1, 3)]), (0, [(1, 0), (0, -4)])])
        rows = [(1, [(1, 0), (0, 2)]), (0, [(1, 0), (1, 5)])]
        low = game_of([(place % 2, place % 3, [place, 16 - place]) for place in range(17)])
        for call, args in (
            (purse_game, [rows]), (turned_purses, [game]), (needs, [game, [None, None]]),
            (papers, [low]), (is_paper, [low, 0, [None] * 17]),
        ):
            before = copy.deepcopy(args)
            self.assertRaises(GarthError, call, *args)
            self.assertEqual(args, before, call.__name__)


if __name__ == "__main__":
    unittest.main()
