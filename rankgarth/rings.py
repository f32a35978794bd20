"""Rules, rings and plays."""

from rankgarth.errors import NoRule
from rankgarth.games import is_whole


def ring_hand(game, ring):
    return max([game[place][1] for place in ring]) % 2


def loops(play):
    rings = []
    pile = []
    for place in play:
        if place in pile:
            found = pile.index(place)
            rings.append(pile[found:])
            pile = pile[:found + 1]
        else:
            pile.append(place)
    return (rings, pile)


def check_rule(game, hand, rule):
    if not isinstance(rule, list) or len(rule) != len(game):
        raise NoRule("a rule is a list as long as the game")
    for row, way in zip(game, rule):
        if way is None:
            continue
        if row[0] != hand:
            raise NoRule("a rule tells nothing at the other hand's places")
        if not is_whole(way) or way not in row[2]:
            raise NoRule("a rule tells ways out alone")


def fixed(game, hand, rule):
    check_rule(game, hand, rule)
    rows = []
    for row, way in zip(game, rule):
        ways = list(row[2]) if way is None else [way]
        rows.append((row[0], row[1], ways))
    return rows


def steps_from(game, start, most):
    # Nearest first, so that a road back along it is a shortest one and meets no place twice.
    came_from = {}
    edge = [start]
    while edge:
        further = []
        for place in edge:
            for way in game[place][2]:
                if way not in came_from and game[way][1] <= most:
                    came_from[way] = place
                    further.append(way)
        edge = further
    return came_from


def road_to(came_from, start, end):
    # The start is left out, but where it is the end as well: so a road from a place to itself is a ring.
    road = [end]
    place = came_from[end]
    while place != start:
        road.append(place)
        place = came_from[place]
    return list(reversed(road))


def ring_below(game, top):
    # With no rank above that of its place top, the hand of the ring is that of this rank.
    came_from = steps_from(game, top, game[top][1])
    if top not in came_from:
        return None
    return road_to(came_from, top, top)


def wrong_ring_among(game, hand, places):
    for place in places:
        if game[place][1] % 2 != hand:
            ring = ring_below(game, place)
            if ring is not None:
                return ring
    return None


def wrong_ring(game, hand):
    return wrong_ring_among(game, hand, list(range(len(game))))


def ring_begun_at(ring, place):
    found = ring.index(place)
    return ring[found:] + ring[:found]


def lasso(game, hand, start):
    came_from = steps_from(game, start, max([row[1] for row in game]))
    ring = wrong_ring_among(game, hand, [start] + list(came_from))
    if ring is None:
        return None
    if start in ring:
        return ([], ring_begun_at(ring, start))
    # The nearest place of the ring: the road to it meets no other one.
    entry = [place for place in came_from if place in ring][0]
    road = road_to(came_from, start, entry)
    return ([start] + road[:-1], ring_begun_at(ring, entry))


def picked(ways, pick):
    return ways[pick % len(ways)]


def played(game, hand, rule, start, picks):
    check_rule(game, hand, rule)
    play = [start]
    place = start
    for pick in picks:
        way = rule[place]
        if way is None:
            way = picked(game[place][2], pick)
        play.append(way)
        place = way
    return play
