"""Points 21, 23, 24 and 25, and point 3 for them: least purses, and the rules that go with them."""

import random
import unittest

from rankgarth.errors import NoRule
from rankgarth.needs import betterings, needs, solved_purses
from rankgarth.purses import is_enough, purse_game
from tests.samples import (
    all_rules, great_amounts, great_purse_games, lasso_need, lassos, least, least_purses, left_by,
    most, random_purse_game, random_purse_games, refusal, rule_needs, small_purse_games,
)

TOP = 10 ** 60 - 1
SMALL = small_purse_games() + random_purse_games(150, 4, [-3, -2, -1, 0, 1, 2, 3], 25)
SMALL += random_purse_games(60, 5, great_amounts(random.Random(24), 8), 24)
GREAT = great_purse_games() + random_purse_games(60, 16, [-5, -2, -1, 0, 1, 2, 5], 240)
GREAT += random_purse_games(60, 16, great_amounts(random.Random(241), 30), 241)
# Each way of being no rule can be shown on it: it has two places of the spender and one of the keeper.
RULE_GAME = purse_game([(1, [(0, 1), (1, 2)]), (0, [(0, 3), (2, 0)]), (1, [(2, -1), (1, 0)])])


def need_of(table, place, amount):
    return None if table[place] is None else max(table[place] - amount, 0)


def is_over(need, other):
    return other is not None and (need is None or need > other)


def bettered_by_words(game, rule, table):
    better = list(rule)
    for place, (hand, ways) in enumerate(game):
        if hand == 1:
            own = need_of(table, rule[place], dict(ways)[rule[place]])
            needed = {way: need_of(table, way, amount) for way, amount in ways}
            if any(is_over(need, own) for need in needed.values()):
                top = most(list(needed.values()))
                better[place] = min(way for way, need in needed.items() if need == top)
    return better


def counted_purses(game):
    """Least purses of a game with small amounts, counted up one by one until all are enough."""
    top = sum(max(abs(amount) for place, amount in ways) for hand, ways in game)
    table = [0] * len(game)
    while True:
        after = []
        for hand, ways in game:
            needed = [need_of(table, place, amount) for place, amount in ways]
            need = least(needed) if hand == 0 else most(needed)
            after.append(None if need is None or need > top else need)
        if after == table:
            return table
        table = after


class NeedsTest(unittest.TestCase):
    def test_no_places(self):
        self.assertEqual(needs([], []), [])

    def test_by_each_lasso(self):
        for game in SMALL:
            for rule in all_rules(game, 1)[:12]:
                self.assertEqual(needs(game, rule), rule_needs(game, rule), (game, rule))

    def test_a_ring_that_costs_nothing_is_enough_for_ever(self):
        game = purse_game([(0, [(1, -3)]), (1, [(2, 5)]), (0, [(0, -2)])])
        self.assertEqual(needs(game, [None, 2, None]), [3, 0, 5])

    def test_a_ring_that_costs_one_is_not(self):
        game = purse_game([(0, [(1, -3)]), (1, [(2, 5)]), (0, [(0, -3)])])
        self.assertEqual(needs(game, [None, 2, None]), [None, None, None])

    def test_a_ring_of_all_places_goes_round_either_way(self):
        for step in (1, -1):
            for first in range(16):
                # It costs all at the one place what it gains at the place ahead.
                amounts = [TOP if place == first else 0 for place in range(16)]
                amounts[(first - step) % 16] = -TOP
                game = purse_game([(0, [((place + step) % 16, amounts[place])]) for place in range(16)])
                told = [0 if place == first else TOP for place in range(16)]
                self.assertEqual(needs(game, [None] * 16), told)

    def test_a_line_of_all_places_goes_either_way(self):
        for ends in (range(16), range(15, -1, -1)):
            rows = {end: (0, [(end, 0)]) for end in ends[:1]}
            rows.update({place: (0, [(ahead, -TOP), (place, -1)]) for ahead, place in zip(ends, ends[1:])})
            game = purse_game([rows[place] for place in range(16)])
            self.assertEqual(needs(game, [None] * 16), [TOP * abs(place - ends[0]) for place in range(16)])

    def test_a_ring_that_gains_on_the_way_is_used(self):
        # Round the ring at place 0 the purse grows as far as one likes: so the dear way costs nothing.
        game = purse_game([(0, [(0, 1), (1, -TOP)]), (1, [(1, 0)])])
        self.assertEqual(needs(game, [None, 1]), [0, 0])

    def test_all_the_keepers(self):
        game = purse_game([(0, [(0, -1), (1, -TOP)]), (0, [(1, -1), (2, 7)]), (0, [(2, 0), (0, 1)])])
        self.assertEqual(needs(game, [None, None, None]), [TOP, 0, 0])

    def test_all_the_spenders(self):
        game = purse_game([(1, [(0, 0), (1, -5)]), (1, [(0, 4), (1, -1)])])
        self.assertEqual(needs(game, [0, 0]), [0, 0])
        self.assertEqual(needs(game, [1, 0]), [None, None])
        self.assertEqual(needs(game, [0, 1]), [0, None])

    def test_what_is_no_rule_of_the_spender(self):
        self.assertEqual(needs(RULE_GAME, [0, None, 1]), [0, 0, 0])
        wrong = [
            [], [0, None], [0, None, 2, None], [0, 0, 2], [0, 2, 2], [2, None, 2], [0, None, 0], [-1, None, 2],
            [0, None, -1], [3, None, 2], [10 ** 59, None, 2], [(0, 1), None, 2], ["0", None, 2],
        ]
        for rule in wrong:
            self.assertIs(refusal(needs, RULE_GAME, rule), NoRule, rule)
        self.assertIs(refusal(needs, [], [None]), NoRule)

    def test_a_place_of_the_spender_without_a_way(self):
        for rule in ([None, None, 2], [0, None, None], [None, None, None]):
            self.assertIs(refusal(needs, RULE_GAME, rule), NoRule)

    def test_each_sixtieth_figure_counts(self):
        for game in SMALL[:60]:
            many = 10 ** 59
            great = [(hand, [(place, amount * many) for place, amount in ways]) for hand, ways in game]
            rule = all_rules(game, 1)[0]
            self.assertEqual(needs(great, rule), [n if n is None else n * many for n in needs(game, rule)])


class BetteringsTest(unittest.TestCase):
    def check_betterings(self, game):
        told = betterings(game)
        self.assertIs(type(told), list)
        self.assertEqual(told[0][0], [min(ways)[0] if hand == 1 else None for hand, ways in game])
        for rule, table in told:
            self.assertEqual(table, needs(game, rule))
        for (rule, table), (later, after) in zip(told, told[1:]):
            self.assertNotEqual(later, rule)
            self.assertEqual(later, bettered_by_words(game, rule, table))
            for before, behind in zip(table, after):
                self.assertFalse(is_over(before, behind))
        rule, table = told[-1]
        self.assertEqual(bettered_by_words(game, rule, table), rule)
        self.assertIs(is_enough(game, table), True)
        return told

    def test_no_places(self):
        self.assertEqual(betterings([]), [([], [])])

    def test_small_games(self):
        for game in SMALL:
            told = self.check_betterings(game)
            self.assertEqual(told[-1][1], least_purses(game))

    def test_great_games(self):
        for game in GREAT:
            self.check_betterings(game)

    def test_several_steps(self):
        self.assertGreaterEqual(max(len(betterings(game)) for game in GREAT), 4)

    def test_all_the_keepers(self):
        game = purse_game([(0, [(0, -1), (1, -2)]), (0, [(1, 0)])])
        self.assertEqual(betterings(game), [([None, None], [2, 0])])

    def test_all_the_spenders(self):
        game = purse_game([(1, [(0, 0), (1, -5)]), (1, [(0, 5), (1, 0)])])
        self.assertEqual(betterings(game), [([0, 0], [0, 0]), ([1, 0], [5, 0])])

    def test_of_several_the_least_place(self):
        game = purse_game([(1, [(0, 0), (1, -4), (2, -4), (3, -3)])] + [(0, [(place, 0)]) for place in (1, 2, 3)])
        none = [None] * 3
        self.assertEqual(betterings(game), [([0] + none, [0] * 4), ([1] + none, [4, 0, 0, 0])])

    def test_of_several_without_a_number_the_least_place(self):
        game = purse_game([(1, [(0, 0), (1, 9), (2, -4), (3, 1)])] + [(0, [(place, 1 - place)]) for place in (1, 2, 3)])
        none = [None] * 3
        self.assertEqual(betterings(game), [([0] + none, [0, 0] + [None] * 2), ([2] + none, [None, 0] + [None] * 2)])

    def test_a_rule_stays_where_a_way_needs_as_much(self):
        # The way to place 2 needs as much as the one that the rule has, and comes to no less.
        game = purse_game([(1, [(1, -4), (2, -4)]), (0, [(1, 0)]), (0, [(2, 0)])])
        self.assertEqual(betterings(game), [([1, None, None], [4, 0, 0])])

    def test_a_rule_takes_the_way_that_needs_most_at_all_places_at_once(self):
        game = purse_game([(1, [(0, 0), (1, -1), (2, -2)]), (1, [(1, 0), (2, -3)]), (0, [(2, 0)])])
        self.assertEqual(
            betterings(game),
            [([0, 1, None], [0, 0, 0]), ([2, 2, None], [2, 3, 0]), ([1, 2, None], [4, 3, 0])],
        )


class SolvedPursesTest(unittest.TestCase):
    def check_kinds(self, game, table, ways):
        self.assertEqual((len(table), len(ways)), (len(game), len(game)))
        for (hand, outs), purse, way in zip(game, table, ways):
            self.assertTrue(purse is None or (type(purse) is int and purse >= 0))
            if hand == 0 and purse is None:
                self.assertIsNone(way)
            else:
                self.assertIs(type(way), int)
                self.assertIn(way, [place for place, amount in outs])

    def check_keeper(self, game, table, ways):
        # What is cut out of a play as rings costs nothing, so all plays are fine where all lassos are.
        left = left_by(game, 0, ways)
        for place, purse in enumerate(table):
            if purse is not None:
                for path, ring in lassos(left, place):
                    self.assertFalse(is_over(lasso_need(path, ring), purse), game)

    def check_spender(self, game, table, ways):
        rule = [way if hand == 1 else None for (hand, outs), way in zip(game, ways)]
        self.assertEqual(rule_needs(game, rule), table)

    def test_no_places(self):
        self.assertEqual(solved_purses([]), ([], []))

    def test_one_place(self):
        for amount in (0, 1, TOP):
            self.assertEqual(solved_purses(purse_game([(0, [(0, amount)])])), ([0], [0]))
            self.assertEqual(solved_purses(purse_game([(1, [(0, amount)])])), ([0], [0]))
        for amount in (-1, -TOP):
            self.assertEqual(solved_purses(purse_game([(0, [(0, amount)])])), ([None], [None]))
            self.assertEqual(solved_purses(purse_game([(1, [(0, amount)])])), ([None], [0]))

    def test_small_games(self):
        for game in SMALL:
            told = solved_purses(game)
            self.assertIs(type(told), tuple)
            table, ways = told
            self.check_kinds(game, table, ways)
            self.assertEqual(table, least_purses(game), game)
            self.check_keeper(game, table, ways)
            self.check_spender(game, table, ways)

    def test_great_games(self):
        for game in GREAT:
            table, ways = solved_purses(game)
            self.check_kinds(game, table, ways)
            self.assertIs(is_enough(game, table), True)
            rule = [way if hand == 1 else None for (hand, outs), way in zip(game, ways)]
            self.assertEqual(needs(game, rule), table)

    def test_purses_that_are_counted_up(self):
        games = random_purse_games(150, 16, [-5, -2, -1, 0, 1, 2, 5], 254)
        for game in games + random_purse_games(100, 16, [-1, 0, 1], 255):
            self.assertEqual(solved_purses(game)[0], counted_purses(game), game)

    def test_the_keeper_is_never_below_0_in_long_plays(self):
        source = random.Random(251)
        for game in GREAT:
            table, ways = solved_purses(game)
            for place, purse in enumerate(table):
                if purse is None:
                    continue
                for step in range(100):
                    hand, outs = game[place]
                    way = ways[place] if hand == 0 else source.choice(outs)[0]
                    purse += dict(outs)[way]
                    place = way
                    self.assertGreaterEqual(purse, table[place])

    def test_with_one_less_the_spender_wins_long_plays(self):
        # The keeper's best against each rule is by lassos: here it goes by the told ways, or as it likes.
        source = random.Random(252)
        for game in random_purse_games(80, 16, [-2, -1, 0, 1, 2], 252):
            table, ways = solved_purses(game)
            for start, need in enumerate(table):
                if need == 0:
                    continue
                place, purse = start, (1000 if need is None else need - 1)
                for step in range(20000):
                    hand, outs = game[place]
                    way = ways[place]
                    if way is None or (hand == 0 and source.randrange(4) == 0):
                        way = source.choice(outs)[0]
                    purse += dict(outs)[way]
                    place = way
                    if purse < 0:
                        break
                self.assertLess(purse, 0)

    def test_great_amounts_come_to_an_end(self):
        # Counted down one by one, each of these would go on for ever.
        game = purse_game([(0, [(0, -1), (1, -TOP)]), (1, [(1, 0)])])
        self.assertEqual(solved_purses(game), ([TOP, 0], [1, 1]))
        game = purse_game([(0, [(1, TOP), (2, -TOP)]), (1, [(0, -TOP), (2, -TOP)]), (0, [(2, 0), (1, -1)])])
        self.assertEqual(solved_purses(game)[0], [0, TOP, 0])

    def test_purses_of_more_than_sixty_figures(self):
        line = purse_game([(1, [(max(place - 1, 0), -TOP if place else 0)]) for place in range(16)])
        self.assertEqual(solved_purses(line)[0], [place * TOP for place in range(16)])

    def test_a_game_of_all_ways(self):
        source = random.Random(253)
        game = random_purse_game(source, 16, 16, [-3, -2, -1])
        for hand in (0, 1):
            each = purse_game([(hand, [(way, -1 - way) for way in range(16)])] * 16)
            self.assertEqual(solved_purses(each), ([None] * 16, [None if hand == 0 else 0] * 16))
        self.assertEqual(solved_purses(game)[0], [None] * 16)


if __name__ == "__main__":
    unittest.main()
