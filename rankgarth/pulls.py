"""Coming to a mark: pulling play to a goal, and keeping it in some places."""

from rankgarth.games import is_place, ways_in


def place_marks(count, places):
    marks = [False] * count
    for place in places:
        if is_place(place, count):
            marks[place] = True
    return marks


def part_marks(game, part):
    if part is None:
        return [True] * len(game)
    return place_marks(len(game), part)


def lacking_ways(game, hand, inside, wanted):
    # How many ways into the layers a place needs yet; it joins when just the last of them is found.
    # So 0 is for places that never join: those outside of the part, and the goal's, which are there already.
    lacking = []
    for place, row in enumerate(game):
        if not inside[place] or wanted[place]:
            lacking.append(0)
        elif row[0] == hand:
            lacking.append(1)
        else:
            lacking.append(len([way for way in row[2] if inside[way]]))
    return lacking


def next_layer(layer, entries, lacking):
    joined = []
    for place in layer:
        for source in entries[place]:
            lacking[source] -= 1
            if lacking[source] == 0:
                joined.append(source)
    return sorted(joined)


def layers_to(game, entries, hand, goal, part):
    # The entries are the game's ways in: who pulls many times in one game finds them once.
    inside = part_marks(game, part)
    wanted = place_marks(len(game), goal)
    lacking = lacking_ways(game, hand, inside, wanted)
    layers = []
    layer = [place for place in range(len(game)) if inside[place] and wanted[place]]
    while layer:
        layers.append(layer)
        layer = next_layer(layer, entries, lacking)
    return layers


def pulled(game, hand, goal, part=None):
    return layers_to(game, ways_in(game), hand, goal, part)


def least_way(ways, marks):
    return min([way for way in ways if marks[way]])


def layer_ways(game, hand, layers):
    rule = [None] * len(game)
    for ahead, layer in zip(layers, layers[1:]):
        marks = place_marks(len(game), ahead)
        for place in layer:
            if game[place][0] == hand:
                rule[place] = least_way(game[place][2], marks)
    return rule


def pull_ways(game, hand, goal, part=None):
    return layer_ways(game, hand, pulled(game, hand, goal, part))


def places_outside(game, places):
    marks = place_marks(len(game), places)
    return [place for place in range(len(game)) if not marks[place]]


def pulled_places(game, hand, goal):
    places = []
    for layer in pulled(game, hand, goal):
        places.extend(layer)
    return places


def kept(game, hand, some):
    # A place can be kept just where the other hand can't pull play out of it.
    return places_outside(game, pulled_places(game, 1 - hand, places_outside(game, some)))


def keep_ways(game, hand, some):
    marks = place_marks(len(game), kept(game, hand, some))
    rule = [None] * len(game)
    for place, row in enumerate(game):
        if marks[place] and row[0] == hand:
            rule[place] = least_way(row[2], marks)
    return rule


def reached(game, goal):
    marks = place_marks(len(game), pulled_places(game, 0, goal))
    hands = [0 if mark else 1 for mark in marks]
    pulls = pull_ways(game, 0, goal)
    keeps = keep_ways(game, 1, places_outside(game, goal))
    ways = [keep if pull is None else pull for pull, keep in zip(pulls, keeps)]
    return (hands, ways)
