"""Points 18 and 19, and point 3 for them: won by ranks, by cutting off."""

import random
import unittest

from rankgarth.cuts import cuts, hand_rule, solved
from rankgarth.games import game_of, thinned, turned
from rankgarth.pulls import pulled
from tests.samples import check_solved, great_games, random_games, random_rows, small_games, sub_game, winners

SMALL = small_games() + random_games(150, 4, [0, 1, 2, 3, 4], 18) + random_games(60, 5, list(range(41)), 19)


def far_games():
    """As great as can be, where what is found within has to be found anew many times."""
    source = random.Random(180)
    rows = []
    for place in range(0, 80, 2):
        rows.append((1, 0, [place] + ([place - 1] if place else [])))
        rows.append((1, 1, [place]))
    for place in range(80, 160, 2):
        rows.append((0, 1, [place] + ([place - 1] if place > 80 else [])))
        rows.append((0, 2, [place]))
    ranked = [(source.randrange(2), place * 40 // 15, [max(place - 1, 0), source.randrange(16)]) for place in range(16)]
    return [game_of(rows), game_of(ranked), game_of([(place % 2, 40 - place, [place]) for place in range(16)])]


def low_games():
    source = random.Random(181)
    return [game_of(random_rows(source, 160, [0, 1, 2], most)) for most in (1, 2, 2, 3, 3, 5)]


GREAT = great_games() + far_games() + low_games() + random_games(60, 16, list(range(41)), 182)


def cuts_by_words(game, who_wins):
    if not game:
        return (0, [], [])
    top = max(rank for hand, rank, ways in game)
    hand = top % 2
    left = list(range(len(game)))
    pieces = []
    while True:
        goal = [place for place in left if game[place][1] == top]
        aside = sum(pulled(game, hand, goal, left), [])
        others = [place for place in left if place not in aside]
        hands = who_wins(sub_game(game, others))
        lost = [place for place, winner in zip(others, hands) if winner != hand]
        if not lost:
            return (hand, pieces, left)
        pieces.append(sorted(sum(pulled(game, 1 - hand, lost, left), [])))
        left = [place for place in left if place not in pieces[-1]]


class SolvedTest(unittest.TestCase):
    def check(self, game):
        told = solved(game)
        check_solved(self, game, told)
        return told[0]

    def test_no_places(self):
        self.assertEqual(solved([]), ([], []))

    def test_one_place(self):
        for hand in (0, 1):
            for rank in range(41):
                game = game_of([(hand, rank, [0])])
                self.assertEqual(solved(game), ([rank % 2], [0 if hand == rank % 2 else None]))

    def test_who_wins_by_all_rules(self):
        for game in SMALL:
            self.assertEqual(self.check(game), winners(game), game)

    def test_great_games(self):
        for game in GREAT:
            self.check(game)

    def test_each_hand_wins_some_of_a_great_game(self):
        self.assertEqual({0, 1}, set(solved(far_games()[0])[0]))

    def test_turned_about_the_other_hand_wins(self):
        games = [game for game in SMALL + GREAT if max([row[1] for row in game], default=0) < 40]
        games = [game for game in games if len(game) <= 16 or max(row[1] for row in game) < 2]
        low = [game_of([(hand, rank % 2, ways) for hand, rank, ways in game]) for game in GREAT]
        for game in games + low:
            self.assertEqual(self.check(turned(game)), [1 - hand for hand in solved(game)[0]])

    def test_thinned_the_same_hands_win(self):
        for game in SMALL + GREAT:
            self.assertEqual(solved(thinned(game))[0], solved(game)[0])

    def test_the_greatest_rank_counts_and_not_how_often(self):
        game = game_of([(0, 3, [1]), (0, 3, [2]), (0, 4, [0])])
        self.assertEqual(solved(game), ([0, 0, 0], [1, 2, 0]))

    def test_a_way_is_not_taken_for_its_own_rank(self):
        # Back to the 2 by way of the 3 would be lost: the ring of 0s is won.
        game = game_of([(0, 2, [1]), (1, 3, [0]), (0, 0, [0, 2])])
        self.assertEqual(solved(game), ([1, 1, 0], [None, 0, 2]))


class HandRuleTest(unittest.TestCase):
    def test_the_other_hands_ways_are_left_out(self):
        game = game_of([(0, 0, [0, 1]), (1, 1, [0, 1]), (0, 2, [2]), (1, 0, [3])])
        self.assertEqual(hand_rule(game, [1, 0, None, 3], 0), [1, None, None, None])
        self.assertEqual(hand_rule(game, [1, 0, None, 3], 1), [None, 0, None, 3])

    def test_no_places(self):
        self.assertEqual(hand_rule([], [], 0), [])

    def test_both_together_are_the_ways(self):
        for game in SMALL + GREAT:
            ways = solved(game)[1]
            both = [hand_rule(game, ways, 0), hand_rule(game, ways, 1)]
            for place, (hand, rank, outs) in enumerate(game):
                self.assertEqual(both[hand][place], ways[place])
                self.assertIsNone(both[1 - hand][place])


class CutsTest(unittest.TestCase):
    def test_no_places(self):
        self.assertEqual(cuts([]), (0, [], []))

    def test_one_place(self):
        self.assertEqual(cuts(game_of([(0, 7, [0])])), (1, [], [0]))
        self.assertEqual(cuts(game_of([(1, 40, [0])])), (0, [], [0]))

    def test_by_the_words_step_by_step(self):
        for game in SMALL:
            self.assertEqual(cuts(game), cuts_by_words(game, winners), game)

    def test_great_games_by_the_words(self):
        for game in GREAT:
            self.assertEqual(cuts(game), cuts_by_words(game, lambda part: solved(part)[0]))

    def test_pieces_are_won_by_the_other_hand_and_the_rest_by_this_one(self):
        for game in SMALL + GREAT:
            hand, pieces, rest = cuts(game)
            hands = solved(game)[0]
            for piece in pieces:
                self.assertNotEqual(piece, [])
                self.assertEqual({hands[place] for place in piece}, {1 - hand})
            self.assertEqual([place for place in range(len(game)) if hands[place] == hand and game], rest)
            self.assertEqual(sorted(sum(pieces, rest)), list(range(len(game))))

    def test_several_pieces_in_their_order(self):
        # Place 0 is put aside, as it can come to the 2 at place 2, until that one is cut off.
        game = game_of([(0, 1, [0, 2]), (1, 2, [1]), (0, 2, [3]), (1, 1, [3])])
        self.assertEqual(cuts(game), (0, [[2, 3], [0]], [1]))
        self.assertEqual(len(cuts(far_games()[0])[1]), 40)

    def test_nothing_may_be_left(self):
        # The place of the greatest rank is cut off as well.
        game = game_of([(1, 2, [1]), (0, 1, [1])])
        self.assertEqual(cuts(game), (0, [[0, 1]], []))

    def test_the_greatest_rank_stays_though_its_places_are_cut_off(self):
        game = game_of([(1, 4, [1]), (0, 1, [1]), (0, 0, [2]), (1, 3, [3])])
        self.assertEqual(cuts(game), (0, [[0, 1, 3]], [2]))
        game = game_of([(1, 4, [1, 0]), (0, 0, [1]), (0, 1, [0, 3]), (0, 3, [3])])
        self.assertEqual(cuts(game), cuts_by_words(game, winners))


if __name__ == "__main__":
    unittest.main()
