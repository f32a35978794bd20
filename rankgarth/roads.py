"""Ranks made amounts: a game is solved by purses."""

from rankgarth.needs import solved_purses
from rankgarth.purses import is_enough, purse_game, turned_purses


def amount_of(count, rank):
    amount = 1
    for turn in range(rank):
        amount *= count
    return -amount if rank % 2 == 1 else amount


def amounts_of(game):
    count = len(game)
    return purse_game([(hand, [(way, amount_of(count, rank)) for way in ways]) for hand, rank, ways in game])


def hand_amounts(game, hand):
    # The hand that is looked at is the keeper.
    amounts = amounts_of(game)
    return amounts if hand == 0 else turned_purses(amounts)


def papers(game):
    return (solved_purses(hand_amounts(game, 0))[0], solved_purses(hand_amounts(game, 1))[0])


def is_paper(game, hand, paper):
    return is_enough(hand_amounts(game, hand), paper)


def solved_by_purses(game):
    by_hand = [solved_purses(hand_amounts(game, hand)) for hand in (0, 1)]
    hands = [1 if purse is None else 0 for purse in by_hand[0][0]]
    ways = []
    for place, winner in enumerate(hands):
        own = game[place][0] == winner
        ways.append(by_hand[winner][1][place] if own else None)
    return (hands, ways)
