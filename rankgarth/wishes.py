"""Wishes: what a server is asked to keep, each watched by a state."""

from rankgarth.errors import NoWish
from rankgarth.games import is_place

MOST_WITHIN = 6
# What the numbers behind each word are.
NUMBER_KINDS = {
    "answer": ("ask", "deed"),
    "often": ("deed",),
    "within": ("ask", "deed", "ticks"),
    "never": ("deed", "deed"),
    "not": ("ask", "deed"),
    "only": ("ask", "deed"),
    "hope": ("ask",),
    "calm": ("ask",),
}
# The words of which a mark is not met in every state, each with the state in which it is.
MARK_STATES = {"answer": 0, "often": 1, "hope": 1, "calm": 1}


def has_bit(number, bit):
    return (number >> bit) & 1 == 1


def after_answer(numbers, state, asks, deeds):
    if has_bit(deeds, numbers[1]):
        return 0
    return 1 if has_bit(asks, numbers[0]) else state


def after_often(numbers, state, asks, deeds):
    return 1 if has_bit(deeds, numbers[0]) else 0


def after_within(numbers, state, asks, deeds):
    if has_bit(deeds, numbers[1]):
        return 0
    if state > 0:
        left = state - 1
    elif has_bit(asks, numbers[0]):
        left = numbers[2]
    else:
        return 0
    # Due still, with no tick left for it.
    return None if left == 0 else left


def after_never(numbers, state, asks, deeds):
    return None if has_bit(deeds, numbers[0]) and has_bit(deeds, numbers[1]) else 0


def after_not(numbers, state, asks, deeds):
    return None if has_bit(asks, numbers[0]) and has_bit(deeds, numbers[1]) else 0


def after_only(numbers, state, asks, deeds):
    asked = state == 1 or has_bit(asks, numbers[0])
    if has_bit(deeds, numbers[1]):
        return 0 if asked else None
    return 1 if asked else 0


def after_hope(numbers, state, asks, deeds):
    return 1 if has_bit(asks, numbers[0]) else 0


def after_calm(numbers, state, asks, deeds):
    return 0 if has_bit(asks, numbers[0]) else 1


STEPS = {
    "answer": after_answer,
    "often": after_often,
    "within": after_within,
    "never": after_never,
    "not": after_not,
    "only": after_only,
    "hope": after_hope,
    "calm": after_calm,
}


class Wish:
    def __init__(self, word, numbers):
        self.word = word
        self.numbers = numbers

    def many(self):
        if self.word == "within":
            return self.numbers[2] + 1
        return 1 if self.word in ("never", "not") else 2

    def after(self, state, asks, deeds):
        return STEPS[self.word](self.numbers, state, asks, deeds)

    def met(self, state):
        return self.word not in MARK_STATES or state == MARK_STATES[self.word]


def check_wish(row, asks, deeds):
    if not isinstance(row, tuple) or len(row) == 0:
        raise NoWish("a wish is a tuple of a word and numbers")
    if not isinstance(row[0], str) or row[0] not in NUMBER_KINDS:
        raise NoWish("a wish begins with one of the eight words")
    kinds = NUMBER_KINDS[row[0]]
    if len(row) - 1 != len(kinds):
        raise NoWish("a wish has as many numbers as its word asks for")
    bounds = {"ask": asks, "deed": deeds, "ticks": MOST_WITHIN + 1}
    for number, kind in zip(row[1:], kinds):
        if not is_place(number, bounds[kind]):
            raise NoWish("a number of a wish is no ask, no deed or no number of ticks")


def wish_of(row, asks, deeds):
    check_wish(row, asks, deeds)
    return Wish(row[0], row[1:])
