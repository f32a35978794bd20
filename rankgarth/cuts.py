"""Won by ranks: what the one hand wins is cut off, until the other hand wins all that is left."""

from rankgarth.games import ways_in
from rankgarth.pulls import layer_ways, layers_to, least_way, place_marks


class Cutter:
    def __init__(self, game):
        self.game = game
        self.entries = ways_in(game)
        self.hands = [0] * len(game)
        self.ways = [None] * len(game)

    def pull(self, hand, goal, left):
        return layers_to(self.game, self.entries, hand, goal, left)

    def without(self, left, places):
        marks = place_marks(len(self.game), places)
        return [place for place in left if not marks[place]]

    def give(self, hand, layers):
        # The goal's own places are told by whoever knows why they are won.
        rule = layer_ways(self.game, hand, layers)
        for layer in layers[1:]:
            for place in layer:
                self.hands[place] = hand
                self.ways[place] = rule[place]

    def give_tops(self, hand, tops, left):
        # Each time that play comes back here the greatest rank is met: so any way that stays will do.
        marks = place_marks(len(self.game), left)
        for place in tops:
            self.hands[place] = hand
            own = self.game[place][0] == hand
            self.ways[place] = least_way(self.game[place][2], marks) if own else None

    def cut(self, part):
        # Each game within has lesser ranks alone, so this goes no deeper than there are ranks.
        # What it tells of a place is overwritten until the place is in a piece or in the rest.
        if not part:
            return (0, [], [])
        top = max([self.game[place][1] for place in part])
        hand = top % 2
        pieces = []
        left = part
        while True:
            tops = [place for place in left if self.game[place][1] == top]
            aside = self.pull(hand, tops, left)
            others = self.without(left, places_of(aside))
            self.cut(others)
            lost = [place for place in others if self.hands[place] != hand]
            if not lost:
                break
            layers = self.pull(1 - hand, lost, left)
            self.give(1 - hand, layers)
            pieces.append(places_of(layers))
            left = self.without(left, pieces[-1])
        self.give_tops(hand, tops, left)
        self.give(hand, aside)
        return (hand, pieces, left)


def places_of(layers):
    places = []
    for layer in layers:
        places.extend(layer)
    return sorted(places)


def solved(game):
    cutter = Cutter(game)
    cutter.cut(list(range(len(game))))
    return (cutter.hands, cutter.ways)


def hand_rule(game, ways, hand):
    return [way if row[0] == hand else None for row, way in zip(game, ways)]


def cuts(game):
    return Cutter(game).cut(list(range(len(game))))
