"""Points 6 and 13 to 17."""

import random
import unittest

from rankgarth.errors import NoRule
from rankgarth.games import game_of
from rankgarth.rings import fixed, lasso, loops, played, ring_hand, wrong_ring
from tests.samples import (
    all_rings, great_games, hand_of_greatest, is_ring, is_road, line_game, places_behind,
    random_games, random_rule, refusal, small_games,
)

FAR = 10 ** 59

FOUR = game_of([
    (0, 4, [1, 3]),
    (1, 5, [0, 1, 2]),
    (0, 0, [2, 0]),
    (1, 3, [1, 3]),
])


class RingHandTest(unittest.TestCase):
    def test_one_place(self):
        self.assertEqual(ring_hand(FOUR, [2]), 0)
        self.assertEqual(ring_hand(FOUR, [1]), 1)
        self.assertEqual(ring_hand(FOUR, [3]), 1)

    def test_many_places(self):
        self.assertEqual(ring_hand(FOUR, [0, 1]), 1)
        self.assertEqual(ring_hand(FOUR, [2, 0, 3, 1]), 1)
        game = game_of([(1, 7, [1]), (1, 40, [2]), (1, 39, [0])])
        for ring in ([0, 1, 2], [1, 2, 0], [2, 0, 1]):
            self.assertEqual(ring_hand(game, ring), 0)

    def test_greatest_games(self):
        for game in great_games():
            for ring in (wrong_ring(game, 0), wrong_ring(game, 1)):
                if ring is not None:
                    self.assertEqual(ring_hand(game, ring), hand_of_greatest(game, ring))
        around = great_games()[-1]
        self.assertEqual(ring_hand(around, list(range(160))), 0)


def loops_by_the_words(play):
    """Cuts out the piece that closes first, until none does."""
    rings = []
    play = list(play)
    closed = True
    while closed:
        closed = False
        for end, place in enumerate(play):
            if place in play[:end]:
                begin = play.index(place)
                rings.append(play[begin:end])
                play = play[:begin] + play[end:]
                closed = True
                break
    return (rings, play)


class LoopsTest(unittest.TestCase):
    def test_no_numbers(self):
        self.assertEqual(loops([]), ([], []))

    def test_no_ring(self):
        self.assertEqual(loops([3, 1, 2]), ([], [3, 1, 2]))

    def test_rings_in_their_order_from_below_to_above(self):
        self.assertEqual(loops([0, 1, 2, 1, 2, 0]), ([[1, 2], [0, 1, 2]], [0]))
        self.assertEqual(loops([4, 2, 7, 2, 4, 9]), ([[2, 7], [4, 2]], [4, 9]))

    def test_one_place_again_and_again(self):
        self.assertEqual(loops([5, 5, 5]), ([[5], [5]], [5]))

    def test_far_numbers(self):
        self.assertEqual(loops([-FAR, FAR, -FAR, -7]), ([[-FAR, FAR]], [-FAR, -7]))
        self.assertEqual(loops([-1, 3, -1]), ([[-1, 3]], [-1]))

    def test_four_hundred(self):
        once = list(range(-200, 200))
        self.assertEqual(loops(once), ([], once))
        half = list(range(200))
        self.assertEqual(loops(half + half), ([half], half))
        self.assertEqual(loops([1] * 400), ([[1]] * 399, [1]))

    def test_kinds(self):
        self.assertIs(type(loops([1])), tuple)

    def test_by_the_words(self):
        source = random.Random(15)
        for number in range(200):
            play = [source.randint(-3, 9) for step in range(source.randint(0, 60))]
            self.assertEqual(loops(play), loops_by_the_words(play))
        for game in great_games():
            play = played(game, 0, [None] * len(game), 0, [source.randint(-FAR, FAR) for step in range(399)])
            self.assertEqual(loops(play), loops_by_the_words(play))
            for ring in loops(play)[0]:
                self.assertTrue(is_ring(game, ring))


# Each with the hand of which it is no rule of FOUR.
WRONG_RULES = [
    (0, []),
    (0, [None, None, None]),
    (1, [None, None, None, None, None]),
    (0, [1, None, 2, None, None]),
    (0, [0, None, None, None]),
    (0, [2, None, None, None]),
    (0, [-1, None, None, None]),
    (0, [4, None, None, None]),
    (0, [FAR, None, None, None]),
    (0, [None, None, -FAR, None]),
    (0, [None, 0, None, None]),
    (0, [1, None, 2, 1]),
    (1, [1, None, None, None]),
    (1, [None, 3, None, None]),
    (1, [None, None, None, 2]),
    (1, [None, "0", None, None]),
    (1, [None, [0], None, None]),
    (1, [None, None, 7, None]),
]


class FixedTest(unittest.TestCase):
    def test_the_told_way_alone(self):
        self.assertEqual(fixed(FOUR, 0, [3, None, None, None]), [
            (0, 4, [3]), (1, 5, [0, 1, 2]), (0, 0, [0, 2]), (1, 3, [1, 3]),
        ])
        self.assertEqual(fixed(FOUR, 1, [None, 2, None, 1]), [
            (0, 4, [1, 3]), (1, 5, [2]), (0, 0, [0, 2]), (1, 3, [1]),
        ])

    def test_rule_that_tells_nothing(self):
        self.assertEqual(fixed(FOUR, 0, [None] * 4), FOUR)
        self.assertEqual(fixed([], 1, []), [])

    def test_no_rule(self):
        for hand, rule in WRONG_RULES:
            self.assertIs(refusal(fixed, FOUR, hand, rule), NoRule, rule)
        self.assertIs(refusal(fixed, [], 0, [None]), NoRule)

    def test_by_the_words(self):
        source = random.Random(13)
        for game in great_games() + random_games(50, 8, list(range(41)), 6):
            for hand in (0, 1):
                rule = random_rule(source, game, hand)
                expected = []
                for row, way in zip(game, rule):
                    expected.append((row[0], row[1], row[2] if way is None else [way]))
                self.assertEqual(fixed(game, hand, rule), expected)


class WrongRingTest(unittest.TestCase):
    def check(self, game, hand, ring):
        self.assertTrue(is_ring(game, ring), ring)
        self.assertEqual(hand_of_greatest(game, ring), 1 - hand)

    def test_ring_of_one_place(self):
        game = game_of([(0, 1, [1]), (1, 2, [1])])
        self.assertEqual(wrong_ring(game, 1), [1])
        self.assertIsNone(wrong_ring(game, 0))

    def test_ring_of_many_places(self):
        game = game_of([(0, 1, [1]), (1, 40, [2]), (0, 39, [0])])
        self.check(game, 1, wrong_ring(game, 1))
        self.assertEqual(len(wrong_ring(game, 1)), 3)
        self.assertIsNone(wrong_ring(game, 0))

    def test_ring_that_goes_round_greater_ranks(self):
        game = game_of([(0, 1, [1, 2]), (0, 2, [0]), (0, 0, [0, 1])])
        self.assertEqual(sorted(wrong_ring(game, 0)), [0, 2])
        self.check(game, 1, wrong_ring(game, 1))

    def test_without_places(self):
        self.assertIsNone(wrong_ring([], 0))
        self.assertIsNone(wrong_ring([], 1))

    def test_by_all_rings(self):
        for game in small_games() + random_games(400, 6, [0, 1, 2, 3, 4, 5], 7):
            for hand in (0, 1):
                ring = wrong_ring(game, hand)
                wrong = [one for one in all_rings(game) if hand_of_greatest(game, one) != hand]
                if wrong:
                    self.check(game, hand, ring)
                else:
                    self.assertIsNone(ring)

    def test_greatest_games(self):
        for game in great_games()[:4]:
            self.check(game, 0, wrong_ring(game, 0))
            self.check(game, 1, wrong_ring(game, 1))
        around = great_games()[-1]
        self.assertIsNone(wrong_ring(around, 0))
        self.assertEqual(len(wrong_ring(around, 1)), 160)
        self.check(around, 1, wrong_ring(around, 1))

    def test_great_game_without_a_wrong_ring(self):
        rows = [(0, place % 2, list(range(place + 1, 160))) for place in range(159)] + [(1, 2, [159])]
        self.assertIsNone(wrong_ring(game_of(rows), 0))
        self.assertEqual(wrong_ring(game_of(rows), 1), [159])


class LassoTest(unittest.TestCase):
    def check(self, game, hand, start, told):
        self.assertIs(type(told), tuple)
        path, ring = told
        self.assertEqual((path + ring)[0], start)
        self.assertTrue(is_road(game, path + ring))
        self.assertTrue(is_ring(game, ring))
        self.assertEqual(len(set(path + ring)), len(path + ring))
        self.assertEqual(hand_of_greatest(game, ring), 1 - hand)

    def test_empty_path(self):
        game = game_of([(0, 1, [1]), (1, 40, [2]), (0, 39, [0])])
        for start in range(3):
            told = lasso(game, 1, start)
            self.assertEqual(told[0], [])
            self.assertEqual(told[1], [start, (start + 1) % 3, (start + 2) % 3])
            self.assertIsNone(lasso(game, 0, start))
        self.assertEqual(lasso(game_of([(0, 3, [0])]), 0, 0), ([], [0]))

    def test_path_and_ring_for_each_hand(self):
        game = game_of([(0, 0, [1]), (0, 9, [2]), (1, 3, [3]), (1, 2, [2])])
        self.assertEqual(lasso(game, 0, 0), ([0, 1], [2, 3]))
        self.assertEqual(lasso(game, 0, 3), ([], [3, 2]))
        self.assertIsNone(lasso(game, 1, 0))
        game = game_of([(0, 0, [1]), (0, 9, [2]), (1, 4, [3]), (1, 3, [2])])
        self.assertEqual(lasso(game, 1, 0), ([0, 1], [2, 3]))
        self.assertIsNone(lasso(game, 0, 0))

    def test_ring_out_of_reach(self):
        game = game_of([(0, 0, [0]), (0, 1, [0, 1])])
        self.assertIsNone(lasso(game, 0, 0))
        self.assertEqual(lasso(game, 0, 1), ([], [1]))

    def test_by_all_rings(self):
        for game in small_games() + random_games(400, 6, [0, 1, 2, 3, 4, 5], 8):
            rings = all_rings(game)
            for hand in (0, 1):
                for start in range(len(game)):
                    reach = places_behind(game, start)
                    wrong = [one for one in rings if one[0] in reach and hand_of_greatest(game, one) != hand]
                    told = lasso(game, hand, start)
                    if wrong:
                        self.check(game, hand, start, told)
                    else:
                        self.assertIsNone(told)

    def test_greatest_games(self):
        for game in great_games()[:4]:
            for hand in (0, 1):
                for start in (0, len(game) // 2, len(game) - 1):
                    told = lasso(game, hand, start)
                    if told is not None:
                        self.check(game, hand, start, told)
        dense = great_games()[1]
        for start in range(16):
            self.assertIsNotNone(lasso(dense, 0, start))
            self.assertIsNotNone(lasso(dense, 1, start))

    def test_long_path_and_long_ring(self):
        line = line_game(160, 1, 1)
        self.assertEqual(lasso(line, 0, 159), (list(range(159, 0, -1)), [0]))
        self.assertIsNone(lasso(line, 1, 159))
        around = great_games()[-1]
        self.assertEqual(lasso(around, 1, 80), ([], list(range(80, 160)) + list(range(80))))

    def test_a_rule_wins_where_its_game_has_no_lasso(self):
        source = random.Random(16)
        for game in random_games(150, 5, [0, 1, 2, 3], 11):
            for hand in (0, 1):
                only = fixed(game, hand, random_rule(source, game, hand))
                rings = all_rings(only)
                for start in range(len(only)):
                    reach = places_behind(only, start)
                    lost = any(ring[0] in reach and ring_hand(only, ring) != hand for ring in rings)
                    self.assertEqual(lasso(only, hand, start) is not None, lost)


class PlayedTest(unittest.TestCase):
    def test_no_picks(self):
        self.assertEqual(played(FOUR, 0, [None] * 4, 2, []), [2])

    def test_picks_where_the_rule_tells_nothing(self):
        self.assertEqual(played(FOUR, 0, [None] * 4, 0, [0, 2, 1, 0]), [0, 1, 2, 2, 0])
        self.assertEqual(played(FOUR, 0, [None] * 4, 0, [3, 7, 5]), [0, 3, 3, 3])

    def test_rule_goes_ahead_of_picks(self):
        self.assertEqual(played(FOUR, 0, [3, None, 0, None], 0, [0, 0, 2, 1, 1]), [0, 3, 1, 2, 0, 3])
        self.assertEqual(played(FOUR, 1, [None, 1, None, None], 0, [0, 0, 2]), [0, 1, 1, 1])

    def test_a_pick_is_used_up_by_the_rule_too(self):
        self.assertEqual(played(FOUR, 1, [None, 0, None, 1], 0, [1, 0, 0, 1]), [0, 3, 1, 0, 3])

    def test_picks_below_nought(self):
        self.assertEqual(played(FOUR, 0, [None] * 4, 1, [-1, -2]), [1, 2, 0])
        self.assertEqual(played(FOUR, 0, [None] * 4, 1, [-4, -3]), [1, 2, 2])

    def test_picks_of_sixty_figures(self):
        self.assertEqual(10 ** 59 % 3, 1)
        self.assertEqual(played(FOUR, 0, [None] * 4, 1, [FAR, -FAR]), [1, 1, 2])

    def test_no_rule(self):
        for hand, rule in WRONG_RULES:
            for picks in ([], [0, 1]):
                self.assertIs(refusal(played, FOUR, hand, rule, 0, picks), NoRule, rule)

    def test_by_the_words(self):
        source = random.Random(17)
        for game in great_games() + random_games(50, 8, list(range(41)), 12):
            for hand in (0, 1):
                rule = random_rule(source, game, hand)
                picks = [source.randint(-FAR, FAR) for pick in range(400)]
                start = source.randrange(len(game))
                play = played(game, hand, rule, start, picks)
                self.assertEqual((len(play), play[0]), (401, start))
                for pick, place, after in zip(picks, play, play[1:]):
                    ways = game[place][2]
                    rest = pick - len(ways) * (pick // len(ways))
                    self.assertEqual(after, ways[rest] if rule[place] is None else rule[place])


if __name__ == "__main__":
    unittest.main()
