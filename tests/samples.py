"""What several tests draw from: sample games, refusals, and the words of the points told plainly."""

import random

from rankgarth.games import game_of

# Between them these have both hands, rings of both hands, ways to themselves and places out of reach.
SMALL_ROWS = [
    [],
    [(0, 0, [0])],
    [(1, 1, [0])],
    [(0, 3, [1]), (1, 4, [0, 1])],
    [(0, 0, [1, 2]), (1, 1, [0]), (0, 2, [2, 3]), (1, 5, [0, 3])],
    [(1, 40, [1]), (0, 39, [2]), (1, 0, [0, 3]), (0, 0, [3])],
]


def small_games():
    return [game_of(rows) for rows in SMALL_ROWS]


def random_rows(source, count, ranks, most_ways):
    rows = []
    for place in range(count):
        ways = [source.randrange(count) for way in range(source.randint(1, most_ways))]
        rows.append((source.randrange(2), source.choice(ranks), ways))
    return rows


def random_games(many, most_places, ranks, seed):
    source = random.Random(seed)
    games = []
    for number in range(many):
        count = source.randint(1, most_places)
        games.append(game_of(random_rows(source, count, ranks, source.randint(1, 3))))
    return games


def random_places(source, count):
    """A list of places in any order, some perhaps twice."""
    return [source.randrange(count) for place in range(source.randint(0, count + 2))]


def random_rule(source, game, hand):
    rule = []
    for owner, rank, ways in game:
        told = owner == hand and source.randrange(3) > 0
        rule.append(source.choice(ways) if told else None)
    return rule


def line_game(count, hand, rank):
    """Each place leads to the one below it, the first one to itself."""
    return game_of([(hand, rank, [max(place - 1, 0)]) for place in range(count)])


def great_games():
    """The greatest games of point 4, with few ways and with all."""
    source = random.Random(4)
    every = list(range(41))
    return [
        game_of(random_rows(source, 16, every, 3)),
        game_of([(place % 2, 40 - place, list(range(16))) for place in range(16)]),
        game_of(random_rows(source, 160, [0, 1, 2], 3)),
        game_of([(place % 2, place % 3, list(range(160))) for place in range(160)]),
        line_game(160, 0, 2),
        line_game(160, 1, 1),
        game_of([(place % 2, 1 if place else 2, [(place + 1) % 160]) for place in range(160)]),
    ]


def refusal(call, *args):
    """The very class of the error that the call raises, or None."""
    try:
        call(*args)
    except ValueError as error:
        return type(error)
    return None


def is_road(game, places):
    return all(after in game[before][2] for before, after in zip(places, places[1:]))


def is_ring(game, ring):
    return (
        len(ring) > 0
        and len(set(ring)) == len(ring)
        and is_road(game, ring + ring[:1])
    )


def hand_of_greatest(game, ring):
    return max(game[place][1] for place in ring) % 2


def all_rings(game):
    """Each ring of a small game once, begun at its least place."""
    rings = []

    def go_on(road):
        for way in game[road[-1]][2]:
            if way == road[0]:
                rings.append(list(road))
            elif way > road[0] and way not in road:
                go_on(road + [way])

    for place in range(len(game)):
        go_on([place])
    return rings


def places_behind(game, start):
    seen = [start]
    for place in seen:
        for way in game[place][2]:
            if way not in seen:
                seen.append(way)
    return seen
