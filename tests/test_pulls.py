"""Points 9 to 12."""

import random
import unittest

from rankgarth.games import game_of
from rankgarth.pulls import keep_ways, kept, pull_ways, pulled, reached
from tests.samples import great_games, line_game, random_games, random_places, small_games


def layers_by_the_words(game, hand, goal, part):
    part = range(len(game)) if part is None else part
    layers = []
    so_far = []
    layer = [place for place in range(len(game)) if place in goal and place in part]
    while layer:
        layers.append(layer)
        so_far = so_far + layer
        layer = []
        for place in range(len(game)):
            ways = [way for way in game[place][2] if way in part]
            within = [way for way in ways if way in so_far]
            enough = len(within) > 0 and (game[place][0] == hand or within == ways)
            if place in part and place not in so_far and enough:
                layer.append(place)
    return layers


def pull_ways_by_the_words(game, hand, goal, part):
    layers = layers_by_the_words(game, hand, goal, part)
    rule = [None] * len(game)
    for number in range(1, len(layers)):
        for place in layers[number]:
            if game[place][0] == hand:
                rule[place] = min(way for way in game[place][2] if way in layers[number - 1])
    return rule


def kept_by_the_words(game, hand, some):
    left = [place for place in range(len(game)) if place in some]
    while True:
        stay = []
        for place in left:
            inside = [way for way in game[place][2] if way in left]
            if inside and (game[place][0] == hand or inside == game[place][2]):
                stay.append(place)
        if stay == left:
            return left
        left = stay


def keep_ways_by_the_words(game, hand, some):
    stay = kept_by_the_words(game, hand, some)
    rule = [None] * len(game)
    for place in stay:
        if game[place][0] == hand:
            rule[place] = min(way for way in game[place][2] if way in stay)
    return rule


def reached_by_the_words(game, goal):
    places = [place for layer in layers_by_the_words(game, 0, goal, None) for place in layer]
    hands = [0 if place in places else 1 for place in range(len(game))]
    ways = pull_ways_by_the_words(game, 0, goal, None)
    for place in range(len(game)):
        if hands[place] == 1 and game[place][0] == 1:
            ways[place] = min(way for way in game[place][2] if hands[way] == 1)
    return (hands, ways)


# 0 and 2 are hand 0's, 1, 3 and 4 hand 1's.
FIVE = game_of([
    (0, 0, [1, 3]),
    (1, 0, [0, 2]),
    (0, 0, [0, 4]),
    (1, 0, [0, 4]),
    (1, 0, [4]),
])


class PulledTest(unittest.TestCase):
    def test_both_hands(self):
        self.assertEqual(pulled(FIVE, 0, [4]), [[4], [2]])
        self.assertEqual(pulled(FIVE, 1, [4]), [[4], [3]])
        self.assertEqual(pulled(FIVE, 0, [0]), [[0], [2], [1]])
        self.assertEqual(pulled(FIVE, 1, [0]), [[0], [1, 3]])

    def test_goal_without_places(self):
        self.assertEqual(pulled(FIVE, 0, []), [])
        self.assertEqual(pulled(FIVE, 1, [], [0, 1]), [])
        self.assertEqual(pulled([], 0, []), [])
        self.assertEqual(pulled([], 1, [], []), [])

    def test_goal_with_no_place_in_the_part(self):
        self.assertEqual(pulled(FIVE, 0, [4], [0, 1, 2, 3]), [])

    def test_goal_is_cut_to_the_part(self):
        self.assertEqual(pulled(FIVE, 0, [4, 0], [0, 1, 2]), [[0], [2], [1]])

    def test_places_twice_and_in_any_order(self):
        self.assertEqual(pulled(FIVE, 0, [4, 0, 4, 0]), [[0, 4], [2, 3], [1]])
        self.assertEqual(pulled(FIVE, 0, [4, 4], [4, 3, 2, 4, 3]), [[4], [2, 3]])

    def test_empty_part_is_not_the_whole(self):
        self.assertEqual(pulled(FIVE, 0, [0, 4], []), [])

    def test_all_places_as_the_part(self):
        for hand in (0, 1):
            for place in range(5):
                self.assertEqual(pulled(FIVE, hand, [place], [3, 1, 4, 0, 2]), pulled(FIVE, hand, [place]))

    def test_other_hand_without_a_way_inside_is_not_pulled(self):
        game = game_of([(0, 0, [0]), (1, 0, [2]), (0, 0, [0])])
        self.assertEqual(pulled(game, 0, [0], [0, 1]), [[0]])
        self.assertEqual(pulled(game, 0, [0]), [[0], [2], [1]])

    def test_ways_out_of_the_part_do_not_count(self):
        game = game_of([(0, 0, [0]), (1, 0, [0, 2]), (0, 0, [2])])
        self.assertEqual(pulled(game, 0, [0]), [[0]])
        self.assertEqual(pulled(game, 0, [0], [0, 1]), [[0], [1]])
        self.assertEqual(pulled(game, 1, [0], [0, 1]), [[0], [1]])

    def test_a_number_below_nought_is_no_place(self):
        self.assertEqual(pulled(FIVE, 0, [-1]), [])
        self.assertEqual(pulled(FIVE, 0, [4], [-1, -3]), [])
        self.assertEqual(kept(FIVE, 1, [-1]), [])

    def test_layers_are_told_late(self):
        self.assertEqual(pulled(line_game(160, 1, 0), 0, [0]), [[place] for place in range(160)])
        self.assertEqual(pulled(line_game(160, 0, 0), 1, [3]), [[place] for place in range(3, 160)])


class PullWaysTest(unittest.TestCase):
    def test_least_way_to_the_layer_just_ahead(self):
        game = game_of([(0, 0, [0]), (0, 0, [0]), (0, 0, [0]), (0, 0, [1, 2, 3, 4]), (0, 0, [2, 3])])
        self.assertEqual(pulled(game, 0, [0]), [[0], [1, 2], [3, 4]])
        self.assertEqual(pull_ways(game, 0, [0]), [None, 0, 0, 1, 2])

    def test_none_at_the_goal_and_at_the_other_hand(self):
        self.assertEqual(pull_ways(FIVE, 0, [0]), [None, None, 0, None, None])
        self.assertEqual(pull_ways(FIVE, 1, [0]), [None, 0, None, 0, None])

    def test_part(self):
        game = game_of([(0, 0, [0]), (0, 0, [0, 2]), (0, 0, [0, 1])])
        self.assertEqual(pull_ways(game, 0, [0], [0, 1]), [None, 0, None])
        self.assertEqual(pull_ways(game, 0, [0], []), [None, None, None])

    def test_without_places(self):
        self.assertEqual(pull_ways([], 0, []), [])
        self.assertEqual(pull_ways(FIVE, 0, []), [None] * 5)


class KeptTest(unittest.TestCase):
    def test_both_hands(self):
        self.assertEqual(kept(FIVE, 0, [2, 1, 0, 2]), [0, 1, 2])
        self.assertEqual(keep_ways(FIVE, 0, [2, 1, 0, 2]), [1, None, 0, None, None])
        self.assertEqual(kept(FIVE, 1, [4, 3]), [3, 4])
        self.assertEqual(keep_ways(FIVE, 1, [4, 3]), [None, None, None, 4, 4])

    def test_all_places_are_kept(self):
        self.assertEqual(kept(FIVE, 0, list(range(5))), [0, 1, 2, 3, 4])
        self.assertEqual(keep_ways(FIVE, 0, list(range(5))), [1, None, 0, None, None])

    def test_nothing_can_be_kept(self):
        self.assertEqual(kept(FIVE, 1, [0, 1, 2]), [])
        self.assertEqual(keep_ways(FIVE, 1, [0, 1, 2]), [None] * 5)
        self.assertEqual(kept(FIVE, 0, []), [])
        self.assertEqual(keep_ways(FIVE, 0, []), [None] * 5)
        self.assertEqual(kept([], 0, []), [])
        self.assertEqual(keep_ways([], 1, []), [])

    def test_one_after_another_falls_away(self):
        game = line_game(160, 0, 0)
        self.assertEqual(kept(game, 0, list(range(1, 160))), [])
        self.assertEqual(kept(game, 1, list(range(100))), list(range(100)))


class ReachedTest(unittest.TestCase):
    def test_none_at_the_goal(self):
        self.assertEqual(reached(FIVE, [0]), ([0, 0, 0, 1, 1], [None, None, 0, 4, 4]))
        self.assertEqual(reached(FIVE, [4, 4]), ([1, 1, 0, 1, 0], [None, 0, 4, 0, None]))

    def test_no_goal(self):
        self.assertEqual(reached(FIVE, []), ([1] * 5, [None, 0, None, 0, 4]))
        self.assertEqual(reached([], []), ([], []))

    def test_all_the_goal(self):
        self.assertEqual(reached(FIVE, [4, 3, 2, 1, 0]), ([0] * 5, [None] * 5))

    def test_kinds(self):
        self.assertIs(type(reached(FIVE, [0])), tuple)


class ByTheWordsTest(unittest.TestCase):
    def check(self, game, source):
        goal = random_places(source, len(game)) if game else []
        some = random_places(source, len(game)) if game else []
        for hand in (0, 1):
            for part in (None, some):
                self.assertEqual(pulled(game, hand, goal, part), layers_by_the_words(game, hand, goal, part))
                self.assertEqual(pull_ways(game, hand, goal, part), pull_ways_by_the_words(game, hand, goal, part))
            self.assertEqual(kept(game, hand, some), kept_by_the_words(game, hand, some))
            self.assertEqual(keep_ways(game, hand, some), keep_ways_by_the_words(game, hand, some))
        self.assertEqual(reached(game, goal), reached_by_the_words(game, goal))

    def test_small_games(self):
        source = random.Random(9)
        for game in small_games() + random_games(400, 9, [0, 1, 2], 5):
            self.check(game, source)

    def test_greatest_games(self):
        source = random.Random(10)
        for game in great_games():
            self.check(game, source)


if __name__ == "__main__":
    unittest.main()
