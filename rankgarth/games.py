"""Games: places in two hands, each with a rank and ways out."""

from rankgarth.errors import NoHand, NoRank, NoWay, TooMany

MOST_PLACES = 160
MOST_RANKED_PLACES = 16
GREATEST_RANK = 40
# Up to this rank a game may have MOST_PLACES places.
GREATEST_LOW_RANK = 2


def is_whole(value):
    # Python counts True and False among the ints; here they are no numbers.
    return isinstance(value, int) and not isinstance(value, bool)


def is_place(value, count):
    # Python would take a number below 0 as an index from the end.
    return is_whole(value) and 0 <= value < count


def check_hand(hand):
    if not is_whole(hand) or hand not in (0, 1):
        raise NoHand("a hand is 0 or 1")


def check_rank(rank):
    if not is_whole(rank) or rank < 0 or rank > GREATEST_RANK:
        raise NoRank(f"a rank is a whole number from 0 to {GREATEST_RANK}")


def check_ways(ways, count):
    if len(ways) == 0:
        raise NoWay("a place has at least one way out")
    for way in ways:
        if not is_place(way, count):
            raise NoWay("a way leads to no place")


def check_row(row, count):
    check_hand(row[0])
    check_rank(row[1])
    check_ways(row[2], count)


def check_rows(rows):
    if len(rows) > MOST_PLACES:
        raise TooMany(f"a game has at most {MOST_PLACES} places")
    for row in rows:
        check_row(row, len(rows))
    ranks = [row[1] for row in rows]
    if len(rows) > MOST_RANKED_PLACES and max(ranks) > GREATEST_LOW_RANK:
        raise TooMany(f"a game with a rank above {GREATEST_LOW_RANK} has at most {MOST_RANKED_PLACES} places")


def game_of(rows):
    check_rows(rows)
    return [(row[0], row[1], sorted(set(row[2]))) for row in rows]


def ways_in(game):
    entries = [[] for row in game]
    for place, row in enumerate(game):
        for way in row[2]:
            entries[way].append(place)
    return entries


def turned(game):
    return game_of([(1 - hand, rank + 1, ways) for hand, rank, ways in game])


def thin_ranks(ranks):
    thin = {}
    below = None
    for rank in sorted(set(ranks)):
        if below is None:
            thin[rank] = rank % 2
        else:
            thin[rank] = thin[below] + (rank - below) % 2
        below = rank
    return thin


def thinned(game):
    thin = thin_ranks([row[1] for row in game])
    return [(hand, thin[rank], list(ways)) for hand, rank, ways in game]
