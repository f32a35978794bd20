"""What several tests draw from: sample games, refusals, and the words of the points told plainly."""

import itertools
import random

from rankgarth.cuts import hand_rule
from rankgarth.games import game_of
from rankgarth.purses import purse_game
from rankgarth.rings import fixed, lasso, wrong_ring

# Between them these have both hands, rings of both hands, ways to themselves and places out of reach.
SMALL_ROWS = [
    [],
    [(0, 0, [0])],
    [(1, 1, [0])],
    [(0, 3, [1]), (1, 4, [0, 1])],
    [(0, 0, [1, 2]), (1, 1, [0]), (0, 2, [2, 3]), (1, 5, [0, 3])],
    [(1, 40, [1]), (0, 39, [2]), (1, 0, [0, 3]), (0, 0, [3])],
]

# The same of purse games, with rings that gain, that cost, and that do neither.
SMALL_PURSE_ROWS = [
    [],
    [(0, [(0, 0)])],
    [(1, [(0, 5)])],
    [(0, [(0, -1)])],
    [(0, [(1, -3), (0, -1)]), (1, [(0, 3), (1, 1)])],
    [(1, [(1, 2), (2, -9)]), (0, [(0, -2), (2, -4)]), (0, [(2, 0)])],
    [(0, [(1, 5), (2, -1)]), (1, [(0, -5), (3, 1)]), (1, [(2, 1), (3, 0)]), (0, [(3, -1), (0, 7)])],
    [(0, [(1, -4)]), (0, [(2, 9)]), (0, [(0, -5), (2, -1)])],
]


def small_games():
    return [game_of(rows) for rows in SMALL_ROWS]


def random_rows(source, count, ranks, most_ways):
    rows = []
    for place in range(count):
        ways = [source.randrange(count) for way in range(source.randint(1, most_ways))]
        rows.append((source.randrange(2), source.choice(ranks), ways))
    return rows


def random_games(many, most_places, ranks, seed):
    source = random.Random(seed)
    games = []
    for number in range(many):
        count = source.randint(1, most_places)
        games.append(game_of(random_rows(source, count, ranks, source.randint(1, 3))))
    return games


def random_places(source, count):
    """A list of places in any order, some perhaps twice."""
    return [source.randrange(count) for place in range(source.randint(0, count + 2))]


def random_rule(source, game, hand):
    rule = []
    for owner, rank, ways in game:
        told = owner == hand and source.randrange(3) > 0
        rule.append(source.choice(ways) if told else None)
    return rule


def line_game(count, hand, rank):
    """Each place leads to the one below it, the first one to itself."""
    return game_of([(hand, rank, [max(place - 1, 0)]) for place in range(count)])


def great_games():
    """The greatest games of point 4, with few ways and with all."""
    source = random.Random(4)
    every = list(range(41))
    return [
        game_of(random_rows(source, 16, every, 3)),
        game_of([(place % 2, 40 - place, list(range(16))) for place in range(16)]),
        game_of(random_rows(source, 160, [0, 1, 2], 3)),
        game_of([(place % 2, place % 3, list(range(160))) for place in range(160)]),
        line_game(160, 0, 2),
        line_game(160, 1, 1),
        game_of([(place % 2, 1 if place else 2, [(place + 1) % 160]) for place in range(160)]),
    ]


def refusal(call, *args):
    """The very class of the error that the call raises, or None."""
    try:
        call(*args)
    except ValueError as error:
        return type(error)
    return None


def is_road(game, places):
    return all(after in game[before][2] for before, after in zip(places, places[1:]))


def is_ring(game, ring):
    return (
        len(ring) > 0
        and len(set(ring)) == len(ring)
        and is_road(game, ring + ring[:1])
    )


def hand_of_greatest(game, ring):
    return max(game[place][1] for place in ring) % 2


def all_rings(game):
    """Each ring of a small game once, begun at its least place."""
    rings = []

    def go_on(road):
        for way in game[road[-1]][2]:
            if way == road[0]:
                rings.append(list(road))
            elif way > road[0] and way not in road:
                go_on(road + [way])

    for place in range(len(game)):
        go_on([place])
    return rings


def places_behind(game, start):
    seen = [start]
    for place in seen:
        for way in game[place][2]:
            if way not in seen:
                seen.append(way)
    return seen


def sub_game(game, part):
    """The places of the part, numbered anew in their order, with the ways between them."""
    return [(game[place][0], game[place][1], [part.index(way) for way in game[place][2] if way in part])
            for place in part]


def all_rules(game, hand):
    """Each rule of the hand that tells a way at each of its places; of purse games, too."""
    choices = []
    for row in game:
        ways = [way[0] if isinstance(way, tuple) else way for way in row[-1]]
        choices.append(ways if row[0] == hand else [None])
    return [list(rule) for rule in itertools.product(*choices)]


def winners(game):
    """Hand 0 wins just where some rule of its own leaves no way to a ring of hand 1."""
    hands = [1] * len(game)
    for rule in all_rules(game, 0):
        left = [(hand, rank, ways if way is None else [way]) for (hand, rank, ways), way in zip(game, rule)]
        wrong = {place for ring in all_rings(left) if hand_of_greatest(left, ring) == 1 for place in ring}
        for place in range(len(game)):
            if not wrong & set(places_behind(left, place)):
                hands[place] = 0
    return hands


def check_solved_ways(test, game, hands, ways):
    test.assertEqual((len(hands), len(ways)), (len(game), len(game)))
    for (owner, rank, outs), hand, way in zip(game, hands, ways):
        test.assertIs(type(hand), int)
        test.assertIn(hand, (0, 1))
        if owner == hand:
            test.assertIs(type(way), int)
            test.assertIn(way, outs)
            test.assertEqual(hands[way], hand)
        else:
            test.assertIsNone(way)
            test.assertEqual({hands[out] for out in outs}, {hand})


def check_solved(test, game, told):
    """What is told of a game is as point 18 asks."""
    test.assertIs(type(told), tuple)
    hands, ways = told
    check_solved_ways(test, game, hands, ways)
    for hand in (0, 1):
        left = fixed(game, hand, hand_rule(game, ways, hand))
        own = [place for place, winner in enumerate(hands) if winner == hand]
        # No play leaves these places: so a lasso from one of them would have its ring among them.
        test.assertIsNone(wrong_ring(sub_game(left, own), hand))
        for place in own[:16]:
            test.assertIsNone(lasso(left, hand, place))


def small_purse_games():
    return [purse_game(rows) for rows in SMALL_PURSE_ROWS]


def random_purse_game(source, count, most_ways, amounts):
    rows = []
    for place in range(count):
        ways = source.sample(range(count), source.randint(1, min(count, most_ways)))
        rows.append((source.randrange(2), [(way, source.choice(amounts)) for way in ways]))
    return purse_game(rows)


def random_purse_games(many, most_places, amounts, seed):
    source = random.Random(seed)
    return [
        random_purse_game(source, source.randint(1, most_places), source.randint(1, 4), amounts)
        for number in range(many)
    ]


def great_amounts(source, many):
    """Amounts of sixty figures, and small ones that must not get lost beside them."""
    top = 10 ** 60 - 1
    return [source.randint(-top, top) for number in range(many)] + [top, -top, top - 1, 1 - top, 1, 0, -1]


def great_purse_games():
    source = random.Random(20)
    top = 10 ** 60 - 1
    each = range(16)
    return [
        random_purse_game(source, 16, 3, great_amounts(source, 20)),
        random_purse_game(source, 16, 16, great_amounts(source, 20)),
        random_purse_game(source, 16, 4, [-2, -1, 0, 1, 2]),
        purse_game([(place % 2, [(way, (way - place) * 10 ** 58) for way in each]) for place in each]),
        # A ring that costs 1 in sixteen ways, which the keeper may leave for a dear one.
        purse_game([(0, [((place + 1) % 16, -1 if place == 0 else 0), (place, -top)]) for place in each]),
        purse_game([(0, [(place, 0 if place == 15 else -1), ((place + 1) % 16, -top)]) for place in each]),
        # The spender may pass on, and take a little, or a lot.
        purse_game([(1, [(0, 0)])] + [(1, [(place - 1, -top), (place, 1)]) for place in each[1:]]),
    ]


def left_by(game, hand, rule):
    """For each place of a purse game the ways that a rule of the hand leaves."""
    return [
        [(place, amount) for place, amount in ways if owner != hand or told is None or place == told]
        for (owner, ways), told in zip(game, rule)
    ]


def lassos(left, start):
    """Each lasso from the start, as the amounts of its path and those of its ring."""
    found = []

    def go_on(road, amounts):
        for way, amount in left[road[-1]]:
            if way in road:
                entry = road.index(way)
                found.append((amounts[:entry], amounts[entry:] + [amount]))
            else:
                go_on(road + [way], amounts + [amount])

    go_on([start], [])
    return found


def lasso_need(path, ring):
    """The least purse that lasts for ever on this lasso, or None."""
    if sum(ring) < 0:
        return None
    return max(0, max(-sum((path + ring)[:number]) for number in range(len(path + ring) + 1)))


def least(needs):
    numbers = [need for need in needs if need is not None]
    return min(numbers) if numbers else None


def most(needs):
    return None if None in needs else max(needs)


def rule_needs(game, rule):
    """The least purses against a spender who keeps to the rule, by each lasso that is left."""
    left = left_by(game, 1, rule)
    return [least([lasso_need(path, ring) for path, ring in lassos(left, place)]) for place in range(len(game))]


def least_purses(game):
    """What the keeper needs against the best rule of the spender."""
    tables = [rule_needs(game, rule) for rule in all_rules(game, 1)]
    return [most([table[place] for table in tables]) for place in range(len(game))]


def all_wishes(asks, deeds):
    """Each wish that there is of so many asks and deeds."""
    each = [(ask, deed) for ask in range(asks) for deed in range(deeds)]
    wishes = [(word, ask, deed) for word in ("answer", "not", "only") for ask, deed in each]
    wishes += [("within", ask, deed, more) for ask, deed in each for more in range(7)]
    wishes += [("never", deed, other) for deed in range(deeds) for other in range(deeds)]
    wishes += [("often", deed) for deed in range(deeds)]
    return wishes + [(word, ask) for word in ("hope", "calm") for ask in range(asks)]
