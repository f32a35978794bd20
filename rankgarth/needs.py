"""Least purses: a rule of the spender is bettered until it stays as it is."""

from rankgarth.errors import NoRule
from rankgarth.purses import is_more, least_needy, most_needy, need_by
from rankgarth.rings import check_rule


def check_spender(game, rule):
    check_rule([(hand, 0, [place for place, amount in ways]) for hand, ways in game], 1, rule)
    for row, way in zip(game, rule):
        if row[0] == 1 and way is None:
            raise NoRule("the rule tells a way at each of the spender's places")


def ways_left(game, rule):
    left = []
    for row, way in zip(game, rule):
        left.append(list(row[1]) if way is None else [(way, dict(row[1])[way])])
    return left


def add_gains(gains, ways, place):
    for way, amount in ways:
        purse = gains[place] + amount
        if purse >= 0 and (gains[way] is None or purse > gains[way]):
            gains[way] = purse


def comes_back(left, start):
    # Round a ring that costs nothing there is a place from which the purse 0 is enough all the way.
    # A ring has no more ways than there are places, so no more rounds are needed, however great the amounts.
    gains = [None] * len(left)
    gains[start] = 0
    for turn in range(len(left)):
        for place in range(len(left)):
            if gains[place] is not None:
                add_gains(gains, left[place], place)
                if [way for way, amount in left[place] if way == start and gains[place] + amount >= 0]:
                    return True
    return False


def needs_left(left):
    # Who lasts for ever comes by a road that meets no place twice to a place that it can come back to from 0 on.
    table = [0 if comes_back(left, place) else None for place in range(len(left))]
    for turn in range(len(left)):
        for place, ways in enumerate(left):
            way = least_needy(ways, table)
            need = need_by(table, way[0], way[1])
            if is_more(table[place], need):
                table[place] = need
    return table


def needs(game, rule):
    check_spender(game, rule)
    return needs_left(ways_left(game, rule))


def bettered(game, rule, table):
    ways = []
    for row, way in zip(game, rule):
        if way is None:
            ways.append(None)
            continue
        most = most_needy(row[1], table)
        own = need_by(table, way, dict(row[1])[way])
        ways.append(most[0] if is_more(need_by(table, most[0], most[1]), own) else way)
    return ways


def betterings(game):
    rule = [ways[0][0] if hand == 1 else None for hand, ways in game]
    table = needs(game, rule)
    told = [(rule, table)]
    better = bettered(game, rule, table)
    while better != rule:
        rule = better
        table = needs(game, rule)
        told.append((rule, table))
        better = bettered(game, rule, table)
    return told


def solved_purses(game):
    last = betterings(game)[-1]
    rule = last[0]
    table = last[1]
    ways = []
    for row, way, purse in zip(game, rule, table):
        if row[0] == 0 and purse is not None:
            ways.append(least_needy(row[1], table)[0])
        else:
            ways.append(way)
    return (table, ways)
