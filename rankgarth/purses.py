"""Purse games: at each way an amount is added to the keeper's purse."""

from rankgarth.errors import NoAmount, NoWay, TooMany
from rankgarth.games import check_hand, check_ways, is_whole

MOST_PURSE_PLACES = 16


def check_purse_ways(ways, count):
    places = [way[0] for way in ways]
    check_ways(places, count)
    if len(set(places)) < len(places):
        raise NoWay("two ways lead to one place")


def check_amounts(ways):
    for way in ways:
        if not is_whole(way[1]) or abs(way[1]) >= 10 ** 60:
            raise NoAmount("an amount is a whole number of at most sixty figures")


def check_purse_rows(rows):
    if len(rows) > MOST_PURSE_PLACES:
        raise TooMany(f"a purse game has at most {MOST_PURSE_PLACES} places")
    for row in rows:
        check_hand(row[0])
        check_purse_ways(row[1], len(rows))
        check_amounts(row[1])


def purse_game(rows):
    check_purse_rows(rows)
    return [(row[0], sorted([(way[0], way[1]) for way in row[1]])) for row in rows]


def need_by(purses, place, amount):
    if purses[place] is None:
        return None
    return max(purses[place] - amount, 0)


def need_order(need):
    # None is more than each number.
    return (1, 0) if need is None else (0, need)


def is_more(need, other):
    return need_order(need) > need_order(other)


def least_needy(ways, purses):
    return min(ways, key=lambda way: need_order(need_by(purses, way[0], way[1])))


def most_needy(ways, purses):
    return max(ways, key=lambda way: need_order(need_by(purses, way[0], way[1])))


def is_enough_at(row, purses, purse):
    way = least_needy(row[1], purses) if row[0] == 0 else most_needy(row[1], purses)
    return not is_more(need_by(purses, way[0], way[1]), purse)


def is_enough(game, purses):
    return all([is_enough_at(row, purses, purse) for row, purse in zip(game, purses)])


def turned_purses(game):
    count = len(game)
    return purse_game([(1 - hand, [(place, -count * amount - 1) for place, amount in ways]) for hand, ways in game])
