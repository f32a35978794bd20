"""Point 39: plays of ranks, of purses and of wishes."""

import copy
import itertools
import random
import unittest

from rankgarth.cuts import solved
from rankgarth.errors import NoMove, NoWish, TooMany
from rankgarth.games import game_of
from rankgarth.needs import solved_purses
from rankgarth.plays import PursePlay, RankPlay, WishPlay
from rankgarth.purses import purse_game
from tests.samples import (
    all_rings, all_rules, great_games, great_purse_games, hand_of_greatest, random_games, random_purse_games, refusal,
    small_games, small_purse_games,
)
from tests.test_serve import BROKEN, KEPT, random_cases
from tests.ticks import Endless, is_kept

FAR = 10 ** 59
TOP = 10 ** 60 - 1
WRONG = (-1, -2, -FAR, FAR, 999)

# Hand 0 wins by going on to place 2, whatever hand 1 does at place 1.
GAME = game_of([(0, 1, [1, 0]), (1, 2, [0, 2]), (0, 0, [1, 3]), (1, 5, [3])])
RANK_GAMES = small_games() + random_games(80, 6, list(range(41)), 39)

PURSE = purse_game([(0, [(1, -3), (0, -1)]), (1, [(1, 2), (0, 3)]), (1, [(2, -1), (0, -1)])])
PURSE_GAMES = small_purse_games() + random_purse_games(80, 4, [-3, -2, -1, 0, 1, 2, 3], 39)


def values(play):
    return copy.deepcopy(vars(play))


def check_refused(test, play, call, *args):
    before = values(play)
    test.assertIs(refusal(call, *args), NoMove, (args, before))
    test.assertEqual(values(play), before)


def rank_steps(test, game, start):
    """Each place to which a play comes, with the ways that it may go there."""
    steps = {}
    edge = [RankPlay(game, start)]
    while edge:
        play = edge.pop()
        place = play.at
        if game[place][0] == play.hand:
            branches = [copy.deepcopy(play) for number in range(2)]
            told = [branch.go() for branch in branches]
            test.assertEqual([branch.at for branch in branches], told)
            test.assertEqual(told[0], told[1])
            test.assertIn(told[0], game[place][2])
            # Come to by another road, the way is the same.
            test.assertEqual(steps.get(place, told[:1]), told[:1])
            branches = branches[:1]
        else:
            branches = [copy.deepcopy(play) for way in game[place][2]]
            for branch, way in zip(branches, game[place][2]):
                test.assertIsNone(branch.other(way))
                test.assertEqual(branch.at, way)
        for branch in branches:
            if branch.at not in steps and branch.at != place:
                edge.append(branch)
        steps[place] = [branch.at for branch in branches]
    return steps


class RankPlayTest(unittest.TestCase):
    def test_a_play(self):
        game = game_of([(0, 1, [0, 1]), (1, 2, [0, 1])])
        play = RankPlay(game, 0)
        self.assertEqual((play.hand, play.at), (0, 0))
        self.assertEqual((play.go(), play.at), (1, 1))
        self.assertIsNone(play.other(1))
        self.assertEqual(play.at, 1)
        self.assertIsNone(play.other(0))
        self.assertEqual((play.hand, play.at), (0, 0))
        self.assertEqual(play.go(), 1)

    def test_the_hand_that_wins_the_start(self):
        for game in RANK_GAMES + great_games()[:4]:
            hands = solved(game)[0]
            for start in range(min(len(game), 16)):
                play = RankPlay(game, start)
                self.assertIs(type(play.hand), int)
                self.assertEqual((play.hand, play.at), (hands[start], start))

    def test_no_play_against_it_is_lost(self):
        played = {0: 0, 1: 0}
        for game in RANK_GAMES:
            for start in range(len(game)):
                hand = RankPlay(game, start).hand
                steps = rank_steps(self, game, start)
                left = [(row[0], row[1], steps.get(place, [])) for place, row in enumerate(game)]
                for ring in all_rings(left):
                    self.assertEqual(hand_of_greatest(game, ring), hand, (game, start))
                played[hand] += 1
        self.assertGreater(min(played.values()), 50)

    def test_great_games(self):
        source = random.Random(4)
        for game in great_games():
            play = RankPlay(game, len(game) - 1)
            ways = {}
            for turn in range(400):
                place = play.at
                if game[place][0] == play.hand:
                    self.assertEqual(ways.setdefault(place, play.go()), play.at)
                    self.assertIn(play.at, game[place][2])
                else:
                    play.other(source.choice(game[place][2]))

    def test_what_is_not_due(self):
        for game in RANK_GAMES:
            for start in range(len(game)):
                play = RankPlay(game, start)
                if game[start][0] == play.hand:
                    for place in list(game[start][2]) + [start, -1]:
                        check_refused(self, play, play.other, place)
                else:
                    check_refused(self, play, play.go)

    def test_no_place_and_no_way_out(self):
        for game in RANK_GAMES:
            for start in range(len(game)):
                play = RankPlay(game, start)
                if game[start][0] != play.hand:
                    for place in (*range(-len(game) - 1, len(game) + 2), *WRONG, True, None):
                        if place is True or place not in game[start][2]:
                            check_refused(self, play, play.other, place)

    def test_a_refusal_in_the_midst(self):
        play = RankPlay(GAME, 0)
        self.assertEqual(play.hand, 0)
        while play.at != 1:
            play.go()
        check_refused(self, play, play.go)
        check_refused(self, play, play.other, 1)
        check_refused(self, play, play.other, 3)
        play.other(2)
        check_refused(self, play, play.other, 3)
        self.assertEqual(play.go(), 1)

    def test_a_start_that_is_no_place(self):
        for game in small_games():
            for start in (len(game), -1, -len(game)) + WRONG:
                if start != 0 or not game:
                    self.assertIs(refusal(RankPlay, game, start), NoMove)

    def test_two_plays_of_one_game(self):
        one = RankPlay(GAME, 0)
        other = RankPlay(GAME, 0)
        one.go()
        self.assertEqual((one.at, other.at), (1, 0))


def lasts(game, play, rule):
    """Whether the purse lasts for ever, the other hand going by a rule that tells a way at each of its places."""
    least = {}
    while play.left >= 0:
        if play.left >= least.get(play.at, play.left + 1):
            return True
        least[play.at] = play.left
        left = play.left
        place = play.at
        if game[place][0] == play.hand:
            told = play.go()
        else:
            told = rule[place]
            play.other(told)
        if play.at != told or play.left != left + dict(game[place][1])[told]:
            raise AssertionError("the play has not gone as it told")
    return False


class PursePlayTest(unittest.TestCase):
    def test_a_play_of_the_keeper(self):
        play = PursePlay(PURSE, 0, 3)
        self.assertEqual((play.hand, play.at, play.left), (0, 0, 3))
        self.assertEqual((play.go(), play.at, play.left), (1, 1, 0))
        self.assertIsNone(play.other(1))
        self.assertEqual((play.at, play.left), (1, 2))
        self.assertIsNone(play.other(0))
        self.assertEqual((play.hand, play.at, play.left), (0, 0, 5))

    def test_a_play_of_the_spender(self):
        play = PursePlay(PURSE, 2, 2)
        self.assertEqual((play.hand, play.at, play.left), (1, 2, 2))
        self.assertEqual([(play.go(), play.left) for turn in range(3)], [(2, 1), (2, 0), (2, -1)])
        check_refused(self, play, play.go)
        check_refused(self, play, play.other, 0)
        self.assertEqual((play.hand, play.at, play.left), (1, 2, -1))

    def test_the_keeper_where_the_purse_is_enough(self):
        for game in PURSE_GAMES + great_purse_games():
            table = solved_purses(game)[0]
            for start, need in enumerate(table):
                for purse in (0, 1, 5, TOP, 10 ** 70 - 1):
                    play = PursePlay(game, start, purse)
                    self.assertIs(type(play.hand), int)
                    self.assertEqual(play.hand, 1 if need is None or purse < need else 0)
                    self.assertEqual((play.at, play.left), (start, purse))
                if need:
                    self.assertEqual([PursePlay(game, start, need + more).hand for more in (-1, 0, 1)], [1, 0, 0])

    def test_it_wins_against_each_rule_of_the_other(self):
        played = {0: 0, 1: 0}
        for game in PURSE_GAMES:
            table = solved_purses(game)[0]
            for start, need in enumerate(table):
                purses = (0, 3, 8) if need is None else (need, need - 1, need + 4, 0)
                for purse in [purse for purse in purses if purse >= 0]:
                    hand = PursePlay(game, start, purse).hand
                    for rule in all_rules(game, 1 - hand):
                        self.assertEqual(lasts(game, PursePlay(game, start, purse), rule), hand == 0, (game, start, purse))
                    played[hand] += 1
        self.assertGreater(min(played.values()), 100)

    def test_from_one_place_always_the_same_way(self):
        source = random.Random(25)
        for game in PURSE_GAMES + great_purse_games():
            ways = {}
            for start in range(len(game)):
                for purse in (0, 7, 10 ** 60, 10 ** 70 - 1):
                    play = PursePlay(game, start, purse)
                    for turn in range(30):
                        place = play.at
                        if play.left < 0:
                            break
                        if game[place][0] == play.hand:
                            told = play.go()
                            self.assertEqual(ways.setdefault((play.hand, place), told), told)
                        else:
                            play.other(source.choice(game[place][1])[0])

    def test_great_amounts(self):
        # The keeper keeps above 0, and each way is added to the last figure.
        source = random.Random(60)
        for game in great_purse_games():
            for start, need in enumerate(solved_purses(game)[0]):
                if need is None:
                    continue
                play = PursePlay(game, start, need)
                left = need
                for turn in range(60):
                    place = play.at
                    if game[place][0] == 0:
                        play.go()
                    else:
                        play.other(source.choice(game[place][1])[0])
                    left += dict(game[place][1])[play.at]
                    self.assertEqual(play.left, left)
                    self.assertGreaterEqual(left, 0)

    def test_over_by_a_way_of_the_other(self):
        game = purse_game([(0, [(0, -4), (1, 1)]), (1, [(0, -2)])])
        play = PursePlay(game, 0, 5)
        self.assertEqual(play.hand, 1)
        play.other(0)
        self.assertEqual(play.left, 1)
        play.other(0)
        self.assertEqual((play.at, play.left), (0, -3))
        for place in (0, 1, 2, -1):
            check_refused(self, play, play.other, place)
        check_refused(self, play, play.go)

    def test_the_purse_0_is_not_over(self):
        game = purse_game([(1, [(1, -2)]), (0, [(0, 0)])])
        play = PursePlay(game, 0, 2)
        self.assertEqual((play.hand, play.go(), play.left), (1, 1, 0))
        play.other(0)
        self.assertEqual((play.go(), play.left), (1, -2))
        check_refused(self, play, play.other, 0)

    def test_what_is_not_due(self):
        for game, purse in itertools.product(PURSE_GAMES, (0, 50)):
            for start, (owner, ways) in enumerate(game):
                play = PursePlay(game, start, purse)
                if owner == play.hand:
                    for place in [way[0] for way in ways] + [-1, FAR]:
                        check_refused(self, play, play.other, place)
                else:
                    check_refused(self, play, play.go)
                    for place in (*range(-len(game) - 1, len(game) + 2), *WRONG, True, None):
                        if place is True or place not in [way[0] for way in ways]:
                            check_refused(self, play, play.other, place)

    def test_a_start_that_is_no_place(self):
        for game in small_purse_games():
            for start in (len(game), -1, -len(game)) + WRONG:
                if start != 0 or not game:
                    self.assertIs(refusal(PursePlay, game, start, 5), NoMove)


def played_ticks(play, numbers):
    """The ticks (asks, deeds) of a play of wishes that is told these numbers."""
    ticks = []
    for number in numbers:
        if play.kept:
            ticks.append((number, play.tick(number)))
        else:
            asks = play.now()
            ticks.append((asks, number))
            if play.tick(number) is not None:
                raise AssertionError("a breaker tells nothing of deeds")
    return ticks


class WishPlayTest(unittest.TestCase):
    def test_one_that_serves(self):
        play = WishPlay(1, 1, [("within", 0, 0, 0), ("only", 0, 0)])
        self.assertIs(play.kept, True)
        self.assertEqual([play.tick(asks) for asks in (0, 1, 1, 0, 0, 1)], [0, 1, 1, 0, 0, 1])

    def test_one_that_breaks(self):
        play = WishPlay(1, 1, [("within", 0, 0, 2), ("never", 0, 0)])
        self.assertIs(play.kept, False)
        asks = []
        for turn in range(6):
            asks.append(play.now())
            self.assertEqual(play.now(), asks[-1])
            self.assertIsNone(play.tick(0))
        # Raised at one of the first ticks, since no deed is due without it.
        self.assertIn(1, asks)
        self.assertIn(play.now(), (0, 1))

    def test_each_row_of_ticks(self):
        source = random.Random(39)
        for asks, deeds, wishes in KEPT + BROKEN + random_cases(60, 40):
            bits = asks if WishPlay(asks, deeds, wishes).kept else deeds
            for number in range(4):
                ring = [source.randrange(2 ** bits) for step in range(source.randint(1, 3))]
                play = WishPlay(asks, deeds, wishes)
                path = played_ticks(play, [source.randrange(2 ** bits) for step in range(5)])
                # At most 160 states: by then the rounds of the ring come again in rounds.
                rounds = {}
                ticks = []
                while play.state not in rounds:
                    rounds[play.state] = len(ticks)
                    ticks += played_ticks(play, ring)
                first = rounds[play.state]
                self.assertEqual(is_kept(wishes, Endless(path + ticks[:first], ticks[first:])), play.kept, wishes)

    def test_kinds(self):
        for asks, deeds, wishes in KEPT + BROKEN:
            play = WishPlay(asks, deeds, wishes)
            self.assertIs(type(play.kept), bool)
            if play.kept:
                for number in range(2 ** asks):
                    told = play.tick(number)
                    self.assertIs(type(told), int)
                    self.assertIn(told, range(2 ** deeds))
            else:
                for number in range(2 ** deeds):
                    self.assertIs(type(play.now()), int)
                    self.assertIn(play.now(), range(2 ** asks))
                    self.assertIsNone(play.tick(number))

    def test_now_is_not_due_where_it_serves(self):
        for asks, deeds, wishes in KEPT:
            play = WishPlay(asks, deeds, wishes)
            check_refused(self, play, play.now)
            play.tick(1)
            check_refused(self, play, play.now)

    def test_no_asks_and_no_deeds(self):
        for asks, deeds, wishes in KEPT + BROKEN:
            play = WishPlay(asks, deeds, wishes)
            bits = asks if play.kept else deeds
            for number in (2 ** bits, 2 ** bits + 1, -2 ** bits, True) + WRONG:
                check_refused(self, play, play.tick, number)
            play.tick(2 ** bits - 1)
            for number in (2 ** bits, 2 ** bits + 1, -2 ** bits, False) + WRONG:
                check_refused(self, play, play.tick, number)

    def test_asks_and_deeds_are_bounded_each_by_their_own(self):
        serving = WishPlay(1, 3, [("often", 2)])
        check_refused(self, serving, serving.tick, 2)
        serving = WishPlay(3, 1, [("often", 0)])
        self.assertIn(serving.tick(7), (0, 1))
        breaking = WishPlay(1, 3, [("often", 2), ("never", 2, 2)])
        breaking.tick(7)
        check_refused(self, breaking, breaking.tick, 8)
        breaking = WishPlay(3, 1, [("often", 0), ("never", 0, 0)])
        check_refused(self, breaking, breaking.tick, 2)

    def test_behind_a_broken_wish_it_goes_on(self):
        play = WishPlay(1, 1, [("often", 0), ("never", 0, 0)])
        for turn in range(10):
            self.assertIn(play.now(), (0, 1))
            self.assertIsNone(play.tick(1))
        check_refused(self, play, play.tick, 2)

    def test_refused_as_solve_wishes(self):
        self.assertIs(refusal(WishPlay, 1, 1, [("often", 1)]), NoWish)
        self.assertIs(refusal(WishPlay, 1, 1, [("always", 0)]), NoWish)
        self.assertIs(refusal(WishPlay, 2, 1, [("only", 0, 0)] * 5), TooMany)
        self.assertIs(refusal(WishPlay, 2, 1, [("only", 0, 0)] * 5 + [("only", 0, 1)]), NoWish)


if __name__ == "__main__":
    unittest.main()
