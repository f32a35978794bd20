"""Wishes kept or broken: the asker and the server play a game in which the wishes are marks in turn."""

from rankgarth.errors import TooMany
from rankgarth.games import MOST_PLACES, game_of
from rankgarth.turns import in_turn, turns_of
from rankgarth.wishes import wish_of

HOPE_WORDS = ("hope", "calm")
MARK_WORDS = ("answer", "often")


def numbers_of(bits):
    count = 1
    for bit in range(bits):
        count *= 2
    return count


def with_words(wishes, words):
    return [number for number, wish in enumerate(wishes) if wish.word in words]


def size_of(asks, wishes):
    states = 1
    for wish in wishes:
        states *= wish.many()
    turns = turns_of(with_words(wishes, HOPE_WORDS)) * turns_of(with_words(wishes, MARK_WORDS))
    return (states * (1 + numbers_of(asks)) + 1) * turns


def checked_wishes(asks, deeds, rows):
    wishes = [wish_of(row, asks, deeds) for row in rows]
    if size_of(asks, wishes) > MOST_PLACES:
        raise TooMany(f"the game of these wishes has more than {MOST_PLACES} places")
    return wishes


def all_states(wishes):
    # The states of all wishes together; in the first one each of them is 0.
    states = [()]
    for wish in wishes:
        longer = []
        for state in states:
            longer.extend([state + (one,) for one in range(wish.many())])
        states = longer
    return states


class AskGame:
    # The asker, hand 1, has a place for each state of the wishes, with the number of the state;
    # the server, hand 0, one for each state and asks; and in one more a wish is broken for ever.
    def __init__(self, asks, deeds, wishes):
        self.asks = numbers_of(asks)
        self.deeds = numbers_of(deeds)
        self.wishes = wishes
        self.states = all_states(wishes)
        self.broken = len(self.states) * (1 + self.asks)
        self.leads = self.all_leads()

    def server_place(self, state, asks):
        return len(self.states) + state * self.asks + asks

    def asks_at(self, place):
        return (place - len(self.states)) % self.asks

    def lead(self, numbers, state, asks, deeds):
        after = [wish.after(one, asks, deeds) for wish, one in zip(self.wishes, state)]
        return self.broken if None in after else numbers[tuple(after)]

    def all_leads(self):
        # For each place of the server a list, for each number of deeds the place that they lead to.
        numbers = dict([(state, number) for number, state in enumerate(self.states)])
        leads = {}
        for number, state in enumerate(self.states):
            for asks in range(self.asks):
                outs = [self.lead(numbers, state, asks, deeds) for deeds in range(self.deeds)]
                leads[self.server_place(number, asks)] = outs
        return leads

    def as_game(self):
        rows = []
        for number in range(len(self.states)):
            rows.append((1, 0, [self.server_place(number, asks) for asks in range(self.asks)]))
        rows.extend([(0, 0, self.leads[place]) for place in range(len(self.states), self.broken)])
        rows.append((0, 0, [self.broken]))
        return game_of(rows)

    def met_places(self, wish):
        told = self.wishes[wish]
        return [number for number, state in enumerate(self.states) if told.met(state[wish])]

    def hope_lists(self):
        # Where a wish is broken all hopes are met, so that the server can't win there by one that isn't.
        return [self.met_places(wish) + [self.broken] for wish in with_words(self.wishes, HOPE_WORDS)]

    def mark_lists(self):
        met = [self.met_places(wish) for wish in with_words(self.wishes, MARK_WORDS)]
        # Without marks the server would win where a wish is broken, too.
        return met if met else [list(range(len(self.states)))]


class Roll:
    # What is found gets numbers in the order in which it is found first.
    def __init__(self, first):
        self.found = [first]
        self.numbers = {first: 0}

    def number(self, thing):
        if thing not in self.numbers:
            self.numbers[thing] = len(self.found)
            self.found.append(thing)
        return self.numbers[thing]


def machine_by(asking, memory):
    # Found are pairs of a turn of the memory and a state of the wishes.
    turns = memory[1]
    roll = Roll((memory[0], 0))
    rows = []
    while len(rows) < len(roll.found):
        pair = roll.found[len(rows)]
        turn = turns[pair[0]][pair[1]][1]
        row = []
        for asks in range(asking.asks):
            place = asking.server_place(pair[1], asks)
            step = turns[turn][place]
            row.append((asking.leads[place].index(step[0]), roll.number((step[1], step[0]))))
        rows.append(row)
    return (0, rows)


def breaker_row(asking, turns, pair, roll):
    raised = turns[pair[0]][pair[1]]
    turn = turns[raised[1]][raised[0]][1]
    # One state, None, for all that lies behind a broken wish.
    found = [None if place == asking.broken else (turn, place) for place in asking.leads[raised[0]]]
    return (asking.asks_at(raised[0]), [roll.number(thing) for thing in found])


def breaker_by(asking, memory):
    roll = Roll((memory[0], 0))
    rows = []
    while len(rows) < len(roll.found):
        pair = roll.found[len(rows)]
        if pair is None:
            rows.append((0, [len(rows)] * asking.deeds))
        else:
            rows.append(breaker_row(asking, memory[1], pair, roll))
    return (0, rows)


def solve_wishes(asks, deeds, wishes):
    asking = AskGame(asks, deeds, checked_wishes(asks, deeds, wishes))
    answer = in_turn(asking.as_game(), asking.hope_lists(), asking.mark_lists())
    if answer[0][0] == 0:
        return ("kept", machine_by(asking, answer[1]))
    return ("broken", breaker_by(asking, answer[2]))
