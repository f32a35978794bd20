"""Point 3, the promise of the whole: over games, purses and wishes together."""

import unittest

from rankgarth.cuts import hand_rule, solved
from rankgarth.games import game_of, turned
from rankgarth.needs import needs, solved_purses
from rankgarth.purses import is_enough, turned_purses
from rankgarth.rings import fixed, lasso
from rankgarth.roads import solved_by_purses
from rankgarth.turns import in_turn
from tests.samples import (
    check_solved, great_games, great_purse_games, lasso_need, lassos, least_purses, left_by, most, random_games,
    random_purse_games, rule_needs, small_games, small_purse_games, winners,
)
from tests.test_serve import BROKEN, KEPT, random_cases
from tests.ticks import check_told

SMALL = small_games() + random_games(80, 5, list(range(41)), 3)
GREAT = great_games() + random_games(30, 16, list(range(40)), 300) + random_games(15, 160, [0, 1, 2], 301)
PURSES = small_purse_games() + random_purse_games(80, 4, [-4, -2, -1, 0, 1, 2, 3], 3)
GREAT_PURSES = great_purse_games() + random_purse_games(40, 16, [-4, -2, -1, 0, 1, 2, 3], 30)


def can_be_turned(game):
    ranks = [row[1] for row in game]
    return not game or max(ranks) < (2 if len(game) > 16 else 40)


class GamesTest(unittest.TestCase):
    def test_each_place_is_won_by_just_one_hand(self):
        for game in SMALL:
            self.assertEqual(solved(game)[0], winners(game))
        for game in SMALL + GREAT:
            check_solved(self, game, solved(game))

    def test_by_cutting_off_and_by_purses_it_is_the_same_hand(self):
        for game in SMALL + [game for game in GREAT if len(game) <= 16]:
            told = solved_by_purses(game)
            self.assertEqual(told[0], solved(game)[0])
            check_solved(self, game, told)

    def test_turned_about_the_other_hand_wins_everywhere(self):
        low = [game_of([(hand, rank % 2, ways) for hand, rank, ways in game]) for game in GREAT if len(game) > 16]
        games = [game for game in SMALL + GREAT + low if can_be_turned(game)]
        self.assertGreater(len([game for game in games if len(game) > 16]), 10)
        for game in games:
            about = turned(game)
            self.assertEqual(solved(about)[0], [1 - hand for hand in solved(game)[0]])
            if len(game) <= 16:
                self.assertEqual(solved_by_purses(about)[0], [1 - hand for hand in solved(game)[0]])

    def test_no_play_that_keeps_to_the_rule_is_lost(self):
        for game in SMALL:
            hands, ways = solved(game)
            for hand in (0, 1):
                left = fixed(game, hand, hand_rule(game, ways, hand))
                for place in [place for place, winner in enumerate(hands) if winner == hand]:
                    self.assertIsNone(lasso(left, hand, place))

    def test_ranks_up_to_2_are_marks_in_turn(self):
        # Hand 0 wins where the places of rank 2 are met again and again, or those of rank 1 and 2 are not.
        for game in random_games(40, 12, [0, 1, 2], 32) + [game for game in great_games() if len(game) == 160]:
            ones = [place for place, row in enumerate(game) if row[1] > 0]
            twos = [place for place, row in enumerate(game) if row[1] == 2]
            self.assertEqual(in_turn(game, [ones], [twos])[0], solved(game)[0])


class PursesTest(unittest.TestCase):
    def test_the_told_purse_is_enough_and_one_less_is_not(self):
        for game in PURSES:
            table, ways = solved_purses(game)
            self.assertEqual(table, least_purses(game))
            keeper = [way if row[0] == 0 else None for row, way in zip(game, ways)]
            spender = [way if row[0] == 1 else None for row, way in zip(game, ways)]
            # What each lasso takes that the keeper's rule leaves, and each that the spender's does.
            kept = [[lasso_need(*one) for one in lassos(left_by(game, 0, keeper), place)] for place in range(len(game))]
            for need, found in zip(table, kept):
                if need is not None:
                    self.assertEqual(most(found), need)
            self.assertEqual(rule_needs(game, spender), table)

    def test_great_ones(self):
        for game in GREAT_PURSES:
            table, ways = solved_purses(game)
            self.assertTrue(is_enough(game, table))
            spender = [way if row[0] == 1 else None for row, way in zip(game, ways)]
            self.assertEqual(needs(game, spender), table)

    def test_turned_about(self):
        for game in PURSES + random_purse_games(30, 16, [-4, -1, 0, 1, 10 ** 57], 31):
            table = solved_purses(game)[0]
            about = solved_purses(turned_purses(game))[0]
            self.assertEqual([need is None for need in about], [need is not None for need in table])


class WishesTest(unittest.TestCase):
    def test_kept_or_broken_each_with_what_is_told_for_it(self):
        words = [check_told(self, *case) for case in KEPT + BROKEN + random_cases(150, 3)]
        self.assertEqual(words[:len(KEPT)], ["kept"] * len(KEPT))
        self.assertEqual(words[len(KEPT):len(KEPT + BROKEN)], ["broken"] * len(BROKEN))


if __name__ == "__main__":
    unittest.main()
