"""Points 20, 22 and 26: purse games, tables of purses, and purse games turned about."""

import random
import unittest

from rankgarth.errors import NoAmount, NoHand, NoWay, TooMany
from rankgarth.needs import solved_purses
from rankgarth.purses import is_enough, need_by, purse_game, turned_purses
from tests.samples import (
    great_purse_games, least_purses, random_purse_games, refusal, small_purse_games,
)

TOP = 10 ** 60 - 1
FINE = (0, [(0, 1)])
BAD_HAND = (2, [(0, 1)])
BAD_WAY = (0, [(9, 1)])
BAD_AMOUNT = (0, [(0, 10 ** 60)])
SMALL = small_purse_games() + random_purse_games(120, 4, [-3, -2, -1, 0, 1, 2, 3], 22)


class PurseGameTest(unittest.TestCase):
    def test_no_rows(self):
        self.assertEqual(purse_game([]), [])

    def test_ways_stand_in_any_order(self):
        rows = [(0, [(2, -5), (0, 7), (1, 0)]), (1, [(1, 3)]), (1, [(1, 9), (0, -9)])]
        game = [(0, [(0, 7), (1, 0), (2, -5)]), (1, [(1, 3)]), (1, [(0, -9), (1, 9)])]
        self.assertEqual(purse_game(rows), game)
        self.assertEqual(purse_game(game), game)

    def test_ways_rise_by_places_and_not_by_amounts(self):
        rows = [(0, [(place, amount) for place, amount in zip(range(16), range(0, -16, -1))])] * 16
        self.assertEqual(purse_game([(hand, ways[::-1]) for hand, ways in rows]), rows)

    def test_kinds(self):
        for game in SMALL + great_purse_games():
            self.assertIs(type(game), list)
            for row in game:
                self.assertIs(type(row), tuple)
                self.assertIs(type(row[1]), list)
                self.assertEqual({type(way) for way in row[1]}, {tuple})

    def test_sixteen_rows_and_no_more(self):
        self.assertEqual(purse_game([FINE] * 16), [FINE] * 16)
        for many in (17, 18, 160, 400):
            self.assertIs(refusal(purse_game, [FINE] * many), TooMany)

    def test_hands(self):
        for hand in (-1, 2, 10 ** 59, True, False):
            self.assertIs(refusal(purse_game, [(hand, [(0, 0)])]), NoHand)

    def test_no_ways(self):
        self.assertIs(refusal(purse_game, [(0, [])]), NoWay)
        self.assertIs(refusal(purse_game, [FINE, (1, [])]), NoWay)

    def test_ways_to_no_place(self):
        for place in (1, 2, 16, -1, 10 ** 59, True, False):
            self.assertIs(refusal(purse_game, [(0, [(0, 0), (place, 0)])]), NoWay)
        self.assertIs(refusal(purse_game, [(0, [(-2, 0)]), FINE]), NoWay)

    def test_two_ways_to_one_place(self):
        for second in (1, 2, -5):
            self.assertIs(refusal(purse_game, [(1, [(0, 1), (1, 4), (0, second)]), FINE]), NoWay)

    def test_amounts_of_sixty_figures_are_taken(self):
        rows = [(0, [(0, TOP), (1, -TOP)]), (1, [(0, -TOP), (1, TOP)])]
        self.assertEqual(purse_game(rows), rows)

    def test_amounts_of_more_than_sixty_figures(self):
        for amount in (TOP + 1, -TOP - 1, 10 ** 61, -10 ** 61, 10 ** 69):
            self.assertIs(refusal(purse_game, [(0, [(0, amount)])]), NoAmount)
            self.assertIs(refusal(purse_game, [FINE, (1, [(0, 5), (1, amount)])]), NoAmount)

    def test_truths_are_no_amounts(self):
        self.assertIs(refusal(purse_game, [(0, [(0, True)])]), NoAmount)

    def test_too_many_goes_first(self):
        for row in (BAD_HAND, BAD_WAY, BAD_AMOUNT, (0, [])):
            self.assertIs(refusal(purse_game, [row] + [FINE] * 16), TooMany)

    def test_what_goes_first_in_one_row(self):
        much = 10 ** 60
        self.assertIs(refusal(purse_game, [(2, [])]), NoHand)
        self.assertIs(refusal(purse_game, [(2, [(9, 1)])]), NoHand)
        self.assertIs(refusal(purse_game, [(2, [(0, 1), (0, 2)])]), NoHand)
        self.assertIs(refusal(purse_game, [(2, [(0, much)])]), NoHand)
        self.assertIs(refusal(purse_game, [(0, [(0, much), (9, 1)])]), NoWay)
        self.assertIs(refusal(purse_game, [(0, [(9, much)])]), NoWay)
        self.assertIs(refusal(purse_game, [(0, [(0, much), (0, 1)])]), NoWay)

    def test_what_goes_first_in_two_rows(self):
        self.assertIs(refusal(purse_game, [BAD_AMOUNT, BAD_HAND]), NoAmount)
        self.assertIs(refusal(purse_game, [BAD_AMOUNT, BAD_WAY]), NoAmount)
        self.assertIs(refusal(purse_game, [BAD_WAY, BAD_HAND]), NoWay)
        self.assertIs(refusal(purse_game, [BAD_WAY, BAD_AMOUNT]), NoWay)
        self.assertIs(refusal(purse_game, [BAD_HAND, BAD_WAY]), NoHand)
        self.assertIs(refusal(purse_game, [FINE, BAD_HAND, BAD_AMOUNT]), NoHand)


class NeedByTest(unittest.TestCase):
    def test_numbers(self):
        self.assertEqual(need_by([5, 7], 1, 3), 4)
        self.assertEqual(need_by([5, 7], 0, -3), 8)
        self.assertEqual(need_by([5, 7], 0, 0), 5)
        self.assertEqual(need_by([0], 0, 0), 0)

    def test_no_less_than_0(self):
        self.assertEqual(need_by([5, 7], 1, 7), 0)
        self.assertEqual(need_by([5, 7], 1, 8), 0)
        self.assertEqual(need_by([0], 0, TOP), 0)
        self.assertEqual(need_by([5, 7], 1, 6), 1)

    def test_none(self):
        for amount in (0, 1, -1, TOP, -TOP):
            self.assertIsNone(need_by([0, None], 1, amount))

    def test_purses_of_seventy_figures(self):
        great = 10 ** 70 - 1
        self.assertEqual(need_by([great], 0, -TOP), great + TOP)
        self.assertEqual(need_by([great], 0, TOP), great - TOP)


def is_enough_by_words(game, purses):
    def needs_no_more(place, amount, purse):
        return purses[place] is not None and max(purses[place] - amount, 0) <= purse

    for (hand, ways), purse in zip(game, purses):
        if purse is not None:
            fine = [needs_no_more(place, amount, purse) for place, amount in ways]
            if not (any(fine) if hand == 0 else all(fine)):
                return False
    return True


def lesser_tables(table):
    """Each table with one number made less by one."""
    for place, purse in enumerate(table):
        if purse:
            yield table[:place] + [purse - 1] + table[place + 1:]


class IsEnoughTest(unittest.TestCase):
    def test_kinds(self):
        game = purse_game([(0, [(0, -1)])])
        self.assertIs(is_enough(game, [None]), True)
        self.assertIs(is_enough(game, [0]), False)
        self.assertIs(is_enough([], []), True)

    def test_the_keeper_has_one_way(self):
        game = purse_game([(0, [(1, -3), (2, -5)]), (0, [(1, 0)]), (0, [(2, -1)])])
        self.assertIs(is_enough(game, [3, 0, None]), True)
        self.assertIs(is_enough(game, [2, 0, None]), False)
        self.assertIs(is_enough(game, [3, None, None]), False)

    def test_all_ways_of_the_spender(self):
        game = purse_game([(1, [(1, -3), (2, -5)]), (0, [(1, 0)]), (0, [(2, 0)])])
        self.assertIs(is_enough(game, [5, 0, 0]), True)
        self.assertIs(is_enough(game, [4, 0, 0]), False)
        self.assertIs(is_enough(game, [5, 0, None]), False)
        self.assertIs(is_enough(game, [None, 0, None]), True)

    def test_the_least_purses_and_others(self):
        for game in SMALL:
            table = least_purses(game)
            self.assertIs(is_enough(game, table), True)
            self.assertIs(is_enough(game, [None] * len(game)), True)
            for more in (1, 5, 10 ** 69):
                greater = [None if purse is None else purse + more for purse in table]
                self.assertIs(is_enough(game, greater), True)
            for lesser in lesser_tables(table):
                self.assertIs(is_enough(game, lesser), False)

    def test_no_table_that_is_enough_lies_below_the_least_purses(self):
        source = random.Random(220)
        for game in SMALL:
            table = least_purses(game)
            for number in range(40):
                some = [source.choice([None, 0, 1, 2, 3, 5, 10 ** 70 - 1]) for row in game]
                self.assertIs(is_enough(game, some), is_enough_by_words(game, some))
                if is_enough(game, some):
                    for purse, own in zip(some, table):
                        self.assertTrue(purse is None or (own is not None and purse >= own))

    def test_great_games(self):
        for game in great_purse_games():
            table = solved_purses(game)[0]
            self.assertIs(is_enough(game, table), True)
            for lesser in lesser_tables(table):
                self.assertIs(is_enough(game, lesser), False)
            for place, purse in enumerate(table):
                if purse is None:
                    self.assertIs(is_enough(game, table[:place] + [10 ** 70 - 1] + table[place + 1:]), False)

    def test_purses_of_seventy_figures(self):
        great = 10 ** 70 - 1
        game = purse_game([(0, [(0, 0)]), (1, [(0, TOP), (1, 0)]), (1, [(0, -TOP)])])
        self.assertIs(is_enough(game, [great, great, None]), True)
        self.assertIs(is_enough(game, [great, great - TOP, None]), True)
        self.assertIs(is_enough(game, [great, great - TOP - 1, None]), False)
        self.assertIs(is_enough(game, [great - TOP, great, great]), True)
        self.assertIs(is_enough(game, [great - TOP + 1, great, great]), False)


class TurnedPursesTest(unittest.TestCase):
    def test_hands_and_amounts(self):
        game = purse_game([(0, [(0, 5), (1, -3)]), (1, [(2, 0)]), (1, [(0, -1), (2, 1)])])
        self.assertEqual(
            turned_purses(game),
            [(1, [(0, -16), (1, 8)]), (0, [(2, -1)]), (0, [(0, 2), (2, -4)])],
        )

    def test_no_places_and_one(self):
        self.assertEqual(turned_purses([]), [])
        self.assertEqual(turned_purses([(0, [(0, -7)])]), [(1, [(0, 6)])])

    def test_by_the_words(self):
        for game in SMALL:
            told = turned_purses(game)
            for (hand, ways), (other, turns) in zip(game, told):
                self.assertEqual(other, 1 - hand)
                self.assertEqual(turns, [(place, -len(game) * amount - 1) for place, amount in ways])
            self.assertEqual(len(told), len(game))

    def test_refused_where_an_amount_has_too_many_figures(self):
        # Of two places -2 c - 1: at the edge of sixty figures, above 0 and below.
        half = 10 ** 60 // 2
        for amount, told in ((-half, TOP), (half - 1, -TOP)):
            game = purse_game([(0, [(0, amount)]), (1, [(0, 1)])])
            self.assertEqual(turned_purses(game)[0], (1, [(0, told)]))
        for amount in (-half - 1, half, TOP, -TOP):
            game = purse_game([(0, [(0, 0)]), (1, [(0, 1), (1, amount)])])
            self.assertIs(refusal(turned_purses, game), NoAmount)
        self.assertIs(refusal(turned_purses, purse_game([(0, [(0, TOP)])])), NoAmount)
        self.assertEqual(turned_purses(purse_game([(0, [(0, -TOP)])])), [(1, [(0, TOP - 1)])])

    def test_a_number_in_just_one_of_both(self):
        source = random.Random(26)
        sizes = [10 ** 58, 10 ** 58 - 1, 1]
        amounts = [source.choice([-1, 0, 1]) * size + source.randint(-2, 2) for size in sizes for number in range(4)]
        for game in SMALL + random_purse_games(100, 16, [-2, -1, 0, 1], 26) + random_purse_games(60, 9, amounts, 27):
            one = solved_purses(game)[0]
            other = solved_purses(turned_purses(game))[0]
            for purse, turn in zip(one, other):
                self.assertNotEqual(purse is None, turn is None)


if __name__ == "__main__":
    unittest.main()
