"""Plays: of a hand that wins, by ranks or by purses, and of wishes that are kept or broken."""

from rankgarth.cuts import solved
from rankgarth.errors import NoMove
from rankgarth.games import is_place, is_whole
from rankgarth.needs import solved_purses
from rankgarth.purses import is_more
from rankgarth.serve import solve_wishes


def check_start(start, count):
    if not is_place(start, count):
        raise NoMove("a play begins at a place")


def check_due(due):
    if not due:
        raise NoMove("this is not due now")


def check_way(place, outs):
    if not is_whole(place) or place not in outs:
        raise NoMove("there is no such way out")


class RankPlay:
    def __init__(self, game, start):
        check_start(start, len(game))
        answer = solved(game)
        self.hand = answer[0][start]
        self.at = start
        self.rule = answer[1]
        # Copies, as the asker may change the game later.
        self.owners = [row[0] for row in game]
        self.outs = [list(row[2]) for row in game]

    def go(self):
        check_due(self.owners[self.at] == self.hand)
        self.at = self.rule[self.at]
        return self.at

    def other(self, place):
        check_due(self.owners[self.at] != self.hand)
        check_way(place, self.outs[self.at])
        self.at = place


class PursePlay:
    def __init__(self, game, start, purse):
        check_start(start, len(game))
        answer = solved_purses(game)
        self.hand = 1 if is_more(answer[0][start], purse) else 0
        self.at = start
        self.left = purse
        self.rule = answer[1]
        self.owners = [row[0] for row in game]
        self.amounts = [dict(row[1]) for row in game]

    def pass_on(self, place):
        self.left += self.amounts[self.at][place]
        self.at = place

    def go(self):
        check_due(self.left >= 0 and self.owners[self.at] == self.hand)
        self.pass_on(self.rule[self.at])
        return self.at

    def other(self, place):
        check_due(self.left >= 0 and self.owners[self.at] != self.hand)
        check_way(place, self.amounts[self.at])
        self.pass_on(place)


class WishPlay:
    def __init__(self, asks, deeds, wishes):
        answer = solve_wishes(asks, deeds, wishes)
        self.kept = answer[0] == "kept"
        self.state = answer[1][0]
        self.rows = answer[1][1]

    def now(self):
        check_due(not self.kept)
        return self.rows[self.state][0]

    def tick(self, number):
        row = self.rows[self.state]
        steps = row if self.kept else row[1]
        if not is_place(number, len(steps)):
            raise NoMove("a bit of the number stands for nothing")
        if self.kept:
            self.state = steps[number][1]
            return steps[number][0]
        self.state = steps[number]
        return None
