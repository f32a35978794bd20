"""Watching wishes: tick by tick, which are met, and whether one was broken."""

from rankgarth.errors import NoAsk
from rankgarth.games import is_whole
from rankgarth.wishes import MARK_STATES, wish_of


def check_bits(number, count):
    if not is_whole(number) or number < 0 or number >> count > 0:
        raise NoAsk("a bit of the number stands for nothing")


class Watch:
    def __init__(self, asks, deeds, wishes):
        self.asks = asks
        self.deeds = deeds
        self.wishes = [wish_of(row, asks, deeds) for row in wishes]
        self.states = [0] * len(wishes)
        self.broken = False

    def tick(self, asks, deeds):
        check_bits(asks, self.asks)
        check_bits(deeds, self.deeds)
        if not self.broken:
            self.states = [wish.after(state, asks, deeds) for wish, state in zip(self.wishes, self.states)]
            self.broken = None in self.states
        return not self.broken

    def met(self):
        if self.broken:
            return []
        return [
            number for number, wish in enumerate(self.wishes)
            if wish.word in MARK_STATES and wish.met(self.states[number])
        ]
