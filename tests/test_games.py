"""Points 4, 5, 7 and 8."""

import unittest

from rankgarth.errors import NoHand, NoRank, NoWay, TooMany
from rankgarth.games import game_of, thinned, turned, ways_in
from tests.samples import great_games, random_games, refusal, small_games

SIXTY = 10 ** 59


def many_rows(count, rank=0):
    return [(0, rank, [0]) for place in range(count)]


class GameOfTest(unittest.TestCase):
    def test_no_rows(self):
        self.assertEqual(game_of([]), [])

    def test_ways_in_any_order_and_twice(self):
        rows = [(0, 3, [2, 0, 2, 1, 0]), (1, 0, [1, 1]), (0, 40, [2, 1])]
        self.assertEqual(game_of(rows), [(0, 3, [0, 1, 2]), (1, 0, [1]), (0, 40, [1, 2])])

    def test_kinds(self):
        game = game_of([(0, 1, [0])])
        self.assertIs(type(game), list)
        self.assertIs(type(game[0]), tuple)
        self.assertIs(type(game[0][2]), list)

    def test_made_again_it_is_the_same(self):
        for game in small_games() + great_games() + random_games(50, 8, list(range(41)), 1):
            self.assertEqual(game_of(game), game)

    def test_sixteen_rows_with_all_ranks(self):
        for low in (0, 13, 25):
            rows = [(place % 2, low + place, [15 - place]) for place in range(16)]
            self.assertEqual(game_of(rows), rows)

    def test_a_hundred_and_sixty_rows_of_low_ranks(self):
        rows = [(place % 2, place % 3, [159 - place]) for place in range(160)]
        self.assertEqual(game_of(rows), rows)
        self.assertEqual(len(game_of(many_rows(17, 2))), 17)


class GameRefusedTest(unittest.TestCase):
    def test_no_hand(self):
        for hand in (2, -1, SIXTY, -SIXTY, True, False, None, "0", 0.0, [0]):
            self.assertIs(refusal(game_of, [(hand, 0, [0])]), NoHand, hand)

    def test_no_rank(self):
        for rank in (-1, 41, SIXTY, -SIXTY, True, False, None, "0", 1.0):
            self.assertIs(refusal(game_of, [(0, rank, [0])]), NoRank, rank)

    def test_no_way(self):
        for ways in ([], [1], [-1], [0, 1], [1, 0], [0, -1], [SIXTY], [-SIXTY], [True], [False], [None], ["0"], [[0]]):
            self.assertIs(refusal(game_of, [(0, 0, ways)]), NoWay, ways)

    def test_truth_is_no_way_where_its_number_is_a_place(self):
        self.assertIs(refusal(game_of, [(0, 0, [True]), (0, 0, [0])]), NoWay)

    def test_too_many_rows(self):
        self.assertIs(refusal(game_of, many_rows(161)), TooMany)
        self.assertIs(refusal(game_of, many_rows(400)), TooMany)

    def test_too_many_rows_with_a_rank_above_two(self):
        for place in (0, 8, 16):
            rows = many_rows(17, 2)
            rows[place] = (1, 3, [0])
            self.assertIs(refusal(game_of, rows), TooMany)
        self.assertIs(refusal(game_of, many_rows(160, 40)), TooMany)
        self.assertIsNone(refusal(game_of, many_rows(16, 3)))

    def test_order_within_a_row(self):
        self.assertIs(refusal(game_of, [(2, 41, [])]), NoHand)
        self.assertIs(refusal(game_of, [(2, 41, [0])]), NoHand)
        self.assertIs(refusal(game_of, [(2, 0, [])]), NoHand)
        self.assertIs(refusal(game_of, [(0, 41, [])]), NoRank)
        self.assertIs(refusal(game_of, [(0, -1, [5])]), NoRank)

    def test_order_of_two_rows(self):
        bad = {NoHand: (2, 0, [0]), NoRank: (0, 41, [0]), NoWay: (0, 0, [])}
        for first in bad:
            for second in bad:
                self.assertIs(refusal(game_of, [(0, 0, [1]), bad[first], bad[second]]), first)

    def test_order_over_the_whole(self):
        for row in ((2, 0, [0]), (0, 41, [0]), (0, 0, [])):
            self.assertIs(refusal(game_of, [row] + many_rows(160)), TooMany)

    def test_rows_go_ahead_of_too_many_by_rank(self):
        bad = {NoHand: (2, 0, [0]), NoRank: (0, 41, [0]), NoWay: (0, 0, [])}
        for expected in bad:
            for place in (0, 16):
                rows = many_rows(17, 3)
                rows[place] = bad[expected]
                self.assertIs(refusal(game_of, rows), expected)


class WaysInTest(unittest.TestCase):
    def test_without_places(self):
        self.assertEqual(ways_in([]), [])

    def test_way_to_itself(self):
        self.assertEqual(ways_in(game_of([(0, 0, [0])])), [[0]])

    def test_places_with_many_and_with_none(self):
        game = game_of([(0, 0, [1]), (1, 0, [1, 0]), (0, 0, [1, 0])])
        self.assertEqual(ways_in(game), [[1, 2], [0, 1, 2], []])

    def test_by_the_words(self):
        for game in great_games() + random_games(50, 9, [0], 2):
            expected = [[source for source in range(len(game)) if place in game[source][2]] for place in range(len(game))]
            self.assertEqual(ways_in(game), expected)


class TurnedTest(unittest.TestCase):
    def test_without_places(self):
        self.assertEqual(turned([]), [])

    def test_hands_and_ranks(self):
        game = game_of([(0, 0, [0, 1]), (1, 39, [0])])
        self.assertEqual(turned(game), [(1, 1, [0, 1]), (0, 40, [0])])

    def test_rank_forty_is_refused(self):
        self.assertIs(refusal(turned, game_of([(0, 0, [0]), (0, 40, [0])])), NoRank)

    def test_rank_two_is_refused_with_more_than_sixteen_places(self):
        self.assertIs(refusal(turned, game_of(many_rows(17, 2))), TooMany)
        self.assertIs(refusal(turned, game_of(many_rows(160, 0)[:-1] + [(1, 2, [0])])), TooMany)

    def test_edges_that_are_not_refused(self):
        self.assertEqual(turned(game_of(many_rows(16, 2))), [(1, 3, [0])] * 16)
        self.assertEqual(turned(game_of(many_rows(160, 1))), [(1, 2, [0])] * 160)


class ThinnedTest(unittest.TestCase):
    def ranks_of(self, ranks):
        game = game_of([(0, rank, [0]) for rank in ranks])
        return [row[1] for row in thinned(game)]

    def test_without_places(self):
        self.assertEqual(thinned([]), [])

    def test_least_rank_even(self):
        self.assertEqual(self.ranks_of([40]), [0])
        self.assertEqual(self.ranks_of([6, 9, 6]), [0, 1, 0])

    def test_least_rank_odd(self):
        self.assertEqual(self.ranks_of([39]), [1])
        self.assertEqual(self.ranks_of([8, 5, 8]), [2, 1, 2])

    def test_gaps(self):
        self.assertEqual(self.ranks_of([30, 4, 8, 11, 40, 17]), [2, 0, 0, 1, 2, 1])
        self.assertEqual(self.ranks_of([3, 5, 7, 10, 12, 13]), [1, 1, 1, 2, 2, 3])
        self.assertEqual(self.ranks_of([0, 1, 2, 3]), [0, 1, 2, 3])

    def test_hands_and_ways_stay(self):
        game = game_of([(0, 7, [1, 0]), (1, 12, [1])])
        self.assertEqual(thinned(game), [(0, 1, [0, 1]), (1, 2, [1])])

    def test_thinned_twice_and_order_kept(self):
        for game in great_games() + random_games(100, 9, list(range(41)), 3):
            thin = thinned(game)
            self.assertEqual(thinned(thin), thin)
            self.assertEqual(game_of(thin), thin)
            for row, less in zip(game, thin):
                self.assertEqual((row[0], row[1] % 2, row[2]), (less[0], less[1] % 2, less[2]))
            pairs = sorted(set((row[1], less[1]) for row, less in zip(game, thin)))
            self.assertIn(pairs[0][1], (0, 1))
            for below, above in zip(pairs, pairs[1:]):
                self.assertEqual(above[1] - below[1], (above[0] - below[0]) % 2)


if __name__ == "__main__":
    unittest.main()
