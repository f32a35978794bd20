"""Marks in turn: hand 0 meets each list of marks again and again, or some list of hopes is not met so."""

from rankgarth.cuts import hand_rule, solved
from rankgarth.errors import NoPlace, TooMany
from rankgarth.games import MOST_PLACES, is_place
from rankgarth.rings import picked


def turns_of(lists):
    return max(len(lists), 1)


def check_turns(game, hopes, marks):
    if turns_of(hopes) * turns_of(marks) * len(game) > MOST_PLACES:
        raise TooMany(f"a turn game has at most {MOST_PLACES} places")
    for places in hopes + marks:
        for place in places:
            if not is_place(place, len(game)):
                raise NoPlace("hopes and marks hold places alone")


def gone_on(lists, turn, place):
    # Not taken round yet: the ranks are told by whether it would go round.
    return turn + 1 if not lists or place in lists[turn] else turn


def turn_rank(hopes_round, marks_round):
    if marks_round:
        return 2
    return 1 if hopes_round else 0


def turn_step(hopes, marks, state, place):
    hope_turns = turns_of(hopes)
    mark_turns = turns_of(marks)
    hope = gone_on(hopes, state // mark_turns, place)
    mark = gone_on(marks, state % mark_turns, place)
    rank = turn_rank(hope == hope_turns, mark == mark_turns)
    return ((hope % hope_turns) * mark_turns + mark % mark_turns, rank)


def turn_steps(game, hopes, marks):
    # For each state a list, for each place a tuple (next state, rank).
    steps = []
    for state in range(turns_of(hopes) * turns_of(marks)):
        steps.append([turn_step(hopes, marks, state, place) for place in range(len(game))])
    return steps


def turn_rows(game, steps):
    rows = []
    for state_steps in steps:
        for row, step in zip(game, state_steps):
            rows.append((row[0], step[1], [step[0] * len(game) + way for way in row[2]]))
    return rows


def turn_game(game, hopes, marks):
    check_turns(game, hopes, marks)
    return turn_rows(game, turn_steps(game, hopes, marks))


def memory_of(game, steps, rule):
    # A rule of the turn game, which needs no memory, is one of the game with the turns as states.
    rows = []
    for state, state_steps in enumerate(steps):
        row = []
        for place, step in enumerate(state_steps):
            way = rule[state * len(game) + place]
            row.append((None if way is None else way % len(game), step[0]))
        rows.append(row)
    return (0, rows)


def in_turn(game, hopes, marks):
    check_turns(game, hopes, marks)
    steps = turn_steps(game, hopes, marks)
    rows = turn_rows(game, steps)
    answer = solved(rows)
    memories = [memory_of(game, steps, hand_rule(rows, answer[1], hand)) for hand in (0, 1)]
    return (answer[0][:len(game)], memories[0], memories[1])


def went(game, hand, memory, start, picks):
    play = [start]
    place = start
    state = memory[0]
    for pick in picks:
        step = memory[1][state][place]
        way = step[0] if game[place][0] == hand else None
        if way is None:
            way = picked(game[place][2], pick)
        play.append(way)
        place = way
        state = step[1]
    return play
