"""Points 27 and 28, and point 3 for them: ranks made amounts."""

import random
import unittest

from rankgarth.cuts import solved
from rankgarth.errors import TooMany
from rankgarth.games import game_of
from rankgarth.needs import solved_purses
from rankgarth.purses import is_enough, purse_game, turned_purses
from rankgarth.roads import amounts_of, is_paper, papers, solved_by_purses
from tests.samples import (
    all_rings, check_solved, great_games, hand_of_greatest, line_game, random_games, small_games, winners,
)

SMALL = small_games() + random_games(100, 5, list(range(41)), 27)
GREAT = [game for game in great_games() if len(game) <= 16] + random_games(60, 16, list(range(41)), 28)
GREAT.append(game_of([(place % 2, 40, list(range(16))) for place in range(16)]))
GREAT.append(game_of([(place % 2, 39 + place % 2, [place, 15 - place]) for place in range(16)]))


class AmountsTest(unittest.TestCase):
    def test_by_the_words(self):
        for game in SMALL + GREAT:
            many = len(game)
            rows = []
            for hand, rank, ways in game:
                amount = many ** rank if rank % 2 == 0 else -many ** rank
                rows.append((hand, [(way, amount) for way in ways]))
            self.assertEqual(amounts_of(game), rows)
            self.assertEqual(purse_game(rows), rows)

    def test_no_places_and_one(self):
        self.assertEqual(amounts_of([]), [])
        for rank in range(41):
            self.assertEqual(amounts_of([(0, rank, [0])]), [(0, [(0, -1 if rank % 2 else 1)])])

    def test_the_greatest_amounts(self):
        game = game_of([(0, 40, [15])] + [(1, 39, [0])] * 15)
        self.assertEqual(amounts_of(game)[0], (0, [(15, 16 ** 40)]))
        self.assertEqual(amounts_of(game)[15], (1, [(0, -16 ** 39)]))

    def test_a_rings_amounts_tell_its_hand(self):
        for game in SMALL:
            amounts = [ways[0][1] for hand, ways in amounts_of(game)]
            for ring in all_rings(game):
                told = sum(amounts[place] for place in ring)
                self.assertTrue(told < 0 if hand_of_greatest(game, ring) else told > 0)


class TooManyTest(unittest.TestCase):
    def test_each_function_refuses_more_than_16_places(self):
        for many in (17, 18, 160):
            game = line_game(many, 0, 2)
            for call, args in (
                (amounts_of, []), (papers, []), (solved_by_purses, []), (is_paper, [0, [0] * many]),
                (is_paper, [1, [None] * many]), (is_paper, [0, [None] * 16]), (is_paper, [1, []]),
            ):
                with self.assertRaises(TooMany):
                    call(game, *args)

    def test_16_places_are_not_refused(self):
        game = line_game(16, 0, 40)
        self.assertEqual(solved_by_purses(game)[0], [0] * 16)
        self.assertEqual(papers(game), ([0] * 16, [None] * 16))
        self.assertIs(is_paper(game, 0, [0] * 16), True)
        self.assertIs(is_paper(game, 1, [0] * 16), False)


class PapersTest(unittest.TestCase):
    def test_no_places(self):
        self.assertEqual(papers([]), ([], []))
        self.assertIs(is_paper([], 0, []), True)
        self.assertIs(is_paper([], 1, []), True)

    def test_the_least_purses_of_both(self):
        for game in SMALL + GREAT:
            amounts = amounts_of(game)
            told = papers(game)
            self.assertIs(type(told), tuple)
            self.assertEqual(told, (solved_purses(amounts)[0], solved_purses(turned_purses(amounts))[0]))

    def test_a_number_in_just_one_of_them(self):
        for game in SMALL + GREAT:
            first, second = papers(game)
            for hand, one, other in zip(solved(game)[0], first, second):
                self.assertEqual((one is None, other is None), (hand == 1, hand == 0))

    def test_papers_of_each_hand(self):
        for game in SMALL + GREAT:
            for hand, paper in enumerate(papers(game)):
                self.assertIs(is_paper(game, hand, paper), True)
                self.assertIs(is_paper(game, hand, [None] * len(game)), True)
                more = [None if purse is None else purse + 10 ** 69 for purse in paper]
                self.assertIs(is_paper(game, hand, more), True)

    def test_what_is_no_paper(self):
        for game in SMALL + GREAT:
            both = papers(game)
            for hand, paper in enumerate(both):
                other = both[1 - hand]
                if set(other) - {None}:
                    self.assertIs(is_paper(game, hand, other), False)
                for place, purse in enumerate(paper):
                    if purse != 0:
                        wrong = 10 ** 70 - 1 if purse is None else purse - 1
                        self.assertIs(is_paper(game, hand, paper[:place] + [wrong] + paper[place + 1:]), False)

    def test_by_the_words(self):
        source = random.Random(280)
        for game in SMALL:
            amounts = amounts_of(game)
            sides = (amounts, turned_purses(amounts))
            hands = winners(game)
            for number in range(20):
                some = [source.choice([None, None, 0, 1, 5, 10 ** 60, 10 ** 70 - 1]) for row in game]
                for hand in (0, 1):
                    told = is_paper(game, hand, some)
                    self.assertIs(told, is_enough(sides[hand], some))
                    if told:
                        self.assertEqual([w for w, purse in zip(hands, some) if purse is not None and w != hand], [])


class SolvedByPursesTest(unittest.TestCase):
    def test_no_places(self):
        self.assertEqual(solved_by_purses([]), ([], []))

    def test_one_place(self):
        for hand in (0, 1):
            for rank in range(41):
                game = game_of([(hand, rank, [0])])
                self.assertEqual(solved_by_purses(game), ([rank % 2], [0 if hand == rank % 2 else None]))

    def test_the_same_hands_as_by_cutting_off(self):
        for game in SMALL + GREAT:
            told = solved_by_purses(game)
            self.assertEqual(told[0], solved(game)[0], game)
            check_solved(self, game, told)

    def test_by_all_rules(self):
        for game in SMALL:
            self.assertEqual(solved_by_purses(game)[0], winners(game))


if __name__ == "__main__":
    unittest.main()
