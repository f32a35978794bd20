"""Point 2: nothing handed in is changed, and what is told is the asker's own."""

import copy
import random
import unittest

from rankgarth.cuts import cuts, hand_rule, solved
from rankgarth.desk import Desk
from rankgarth.errors import GarthError
from rankgarth.games import game_of, thinned, turned, ways_in
from rankgarth.machines import Runner, apart, differ, least_machine, machine_of, told
from rankgarth.needs import betterings, needs, solved_purses
from rankgarth.plays import PursePlay, RankPlay, WishPlay
from rankgarth.pulls import keep_ways, kept, pull_ways, pulled, reached
from rankgarth.purses import is_enough, need_by, purse_game, turned_purses
from rankgarth.rings import fixed, lasso, loops, played, ring_hand, wrong_ring
from rankgarth.roads import amounts_of, is_paper, papers, solved_by_purses
from rankgarth.serve import solve_wishes
from rankgarth.texts import read_game, read_purses, read_wishes, shown_game, shown_purses, shown_wishes
from rankgarth.turns import in_turn, turn_game, went
from rankgarth.watch import Watch
from rankgarth.wishes import wish_of
from tests.samples import great_games, great_purse_games, random_rule, small_purse_games
from tests.test_serve import BROKEN, GREATEST, KEPT
from tests.test_texts import names_for


def game_calls(game):
    source = random.Random(2)
    count = len(game)
    goal = [count - 1, 0, count - 1]
    part = [place for place in range(count) if place % 5 < 4] + [0]
    calls = [(game_of, [[(row[0], row[1], row[2][::-1] + row[2][:1]) for row in game]])]
    calls += [(game_of, [game]), (ways_in, [game]), (thinned, [game])]
    if max(row[1] for row in game) < 40 and (count <= 16 or max(row[1] for row in game) < 2):
        calls.append((turned, [game]))
    for hand in (0, 1):
        rule = random_rule(source, game, hand)
        calls += [
            (pulled, [game, hand, goal]), (pulled, [game, hand, goal, part]),
            (pull_ways, [game, hand, goal]), (pull_ways, [game, hand, goal, part]),
            (kept, [game, hand, part]), (keep_ways, [game, hand, part]),
            (kept, [game, hand, goal]), (keep_ways, [game, hand, goal]),
            (fixed, [game, hand, rule]), (fixed, [game, hand, [None] * count]),
            (wrong_ring, [game, hand]), (lasso, [game, hand, count - 1]), (lasso, [game, hand, 0]),
            (played, [game, hand, rule, 0, [7, -3, 10 ** 59, 0]]), (played, [game, hand, rule, 0, []]),
            (ring_hand, [game, [0]]),
        ]
    calls += [(reached, [game, goal]), (reached, [game, []])]
    calls += [(loops, [[3, 1, 3, 4, 1, -9, 1]]), (loops, [[1, 2, 3]])]
    calls += [(solved, [game]), (cuts, [game])]
    calls += [(hand_rule, [game, solved(game)[1], hand]) for hand in (0, 1)]
    if count <= 16:
        calls += [(amounts_of, [game]), (papers, [game]), (solved_by_purses, [game])]
        calls += [(is_paper, [game, hand, papers(game)[hand]]) for hand in (0, 1)]
    return calls


def purse_calls(game):
    table = solved_purses(game)[0]
    calls = [(purse_game, [[(row[0], row[1][::-1]) for row in game]]), (purse_game, [game])]
    calls += [(need_by, [table, 0, 5]), (is_enough, [game, table]), (is_enough, [game, [None] * len(game)])]
    calls += [(betterings, [game]), (solved_purses, [game])]
    calls.append((needs, [game, [row[1][-1][0] if row[0] == 1 else None for row in game]]))
    if max(abs(amount) for hand, ways in game for place, amount in ways) < 10 ** 58:
        calls.append((turned_purses, [game]))
    return calls


def turn_calls(game, hopes, marks):
    calls = [(turn_game, [game, hopes, marks]), (in_turn, [game, hopes, marks])]
    for hand in (0, 1):
        memory = in_turn(game, hopes, marks)[1 + hand]
        calls += [(went, [game, hand, memory, 0, [7, -3, 10 ** 59, 0]]), (went, [game, hand, memory, 0, []])]
    return calls


def great_turn_calls():
    calls = []
    for game in great_games():
        count = len(game)
        calls += turn_calls(game, [], [])
        calls += turn_calls(game, [[count - 1, 0, 0]], [[1, 2, 1]])
        if count <= 16:
            calls += turn_calls(game, [[3, 1, 3], [0]], [[count - 1, 0], [1], [2, 4, 2], [], [5]])
    return calls


def ran(machine, asks):
    runner = Runner(machine)
    return [(runner.step(ask), runner.state) for ask in asks]


def machine_calls():
    source = random.Random(32)
    calls = []
    for states, asks in ((1, 1), (2, 1), (5, 3), (160, 8)):
        rows = [[(source.randrange(2), source.randrange(states)) for ask in range(asks)] for state in range(states)]
        machine = machine_of(states - 1, rows)
        row = [source.randrange(asks) for ask in range(50)]
        calls += [
            (machine_of, [states - 1, rows]), (told, [machine, row]), (told, [machine, []]), (ran, [machine, row]),
            (apart, [machine, 0, states - 1]), (apart, [machine, 0, 0]), (least_machine, [machine]),
            (differ, [machine, machine]), (differ, [machine, (0, rows)]),
        ]
    return calls


WISHES = [("answer", 0, 1), ("often", 0), ("within", 1, 0, 3), ("only", 1, 1), ("hope", 0), ("calm", 1)]


def wish_told(row, asks, deeds):
    wish = wish_of(row, asks, deeds)
    states = range(wish.many())
    return (wish.word, [(wish.met(state), wish.after(state, 1, 0), wish.after(state, 2, 3)) for state in states])


def watched(asks, deeds, wishes, ticks):
    watch = Watch(asks, deeds, wishes)
    return [watch.met()] + [[watch.tick(*tick), watch.met()] for tick in ticks]


def wish_calls():
    ticks = [(1, 0), (2, 2), (0, 1), (0, 3), (3, 0), (0, 0), (0, 0), (0, 0), (0, 0), (1, 1)]
    calls = [(wish_told, [row, 2, 2]) for row in WISHES + [("never", 0, 1), ("not", 1, 0)]]
    calls += [(watched, [2, 2, WISHES, ticks]), (watched, [2, 2, WISHES[:2] * 3, ticks]), (watched, [2, 2, [], ticks])]
    return calls


def other_way(game, place, turn):
    way = game[place][-1][turn % len(game[place][-1])]
    return way[0] if isinstance(way, tuple) else way


def gone(kind, game, *start):
    """What a play of ranks or of purses tells, the other hand going now one way, now another."""
    play = kind(game, *start)
    told = [play.hand]
    for turn in range(12):
        if getattr(play, "left", 0) < 0:
            break
        if game[play.at][0] == play.hand:
            told.append(play.go())
        else:
            told.append(play.other(other_way(game, play.at, turn)))
        told.append([play.at, getattr(play, "left", None)])
    return told


def ticked_on(asks, deeds, wishes, numbers):
    play = WishPlay(asks, deeds, wishes)
    return [play.kept] + [[None if play.kept else play.now(), play.tick(number)] for number in numbers]


def said(rows):
    desk = Desk()
    return [desk.say(row) for row in rows]


SAID = [
    "game g a+3 b a; b-0 a", "purse p a+ a:-1 b:4; b- a:-3", "wish w 1 1: not 0 0; answer 0 0", "show g", "show p", "show w",
    "turn h g", "show h", "won h a", "need p a", "serve w", "play g b", "go", "play p a 0", "go", "go a", "left", "play w",
    "now", "tick 1", "drop g",
]


def late_calls():
    calls = []
    for asks, deeds, wishes in KEPT + BROKEN + GREATEST:
        calls += [(solve_wishes, [asks, deeds, wishes]), (ticked_on, [asks, deeds, wishes, [0, 1, 1, 0, 1]])]
        text = shown_wishes(asks, deeds, wishes)
        calls += [(shown_wishes, [asks, deeds, wishes]), (read_wishes, [text])]
    for game in great_games():
        names = names_for(len(game))
        calls += [(shown_game, [names, game]), (read_game, [shown_game(names, game)])]
        calls += [(gone, [RankPlay, game, start]) for start in (0, len(game) - 1)]
    for game in small_purse_games() + great_purse_games():
        names = names_for(len(game))
        calls += [(shown_purses, [names, game]), (read_purses, [shown_purses(names, game)])]
        if game:
            calls += [(gone, [PursePlay, game, len(game) - 1, purse]) for purse in (0, 5, 10 ** 69)]
    return calls + [(said, [SAID])]


def all_calls():
    small = game_of([(0, 3, [1, 2]), (1, 4, [0, 1]), (0, 1, [0, 2, 3]), (1, 0, [2, 3])])
    low = game_of([(place % 2, place % 2, [place, 159 - place]) for place in range(160)])
    calls = []
    for game in [small, low] + great_games():
        calls += game_calls(game)
    for game in small_purse_games() + great_purse_games():
        if game:
            calls += purse_calls(game)
    calls += turn_calls(small, [[3, 0, 3]], [[1], [2, 2, 0]]) + great_turn_calls()
    return calls + machine_calls() + wish_calls() + late_calls()


def lists_within(value):
    found = []
    if isinstance(value, list):
        found.append(value)
    if isinstance(value, (list, tuple)):
        for part in value:
            found += lists_within(part)
    return found


def spoil(value):
    for one in lists_within(value):
        one.reverse()
        one.append(99)
        one[0] = -5


class OwnTest(unittest.TestCase):
    def test_nothing_handed_in_is_changed(self):
        for call, args in all_calls():
            before = copy.deepcopy(args)
            call(*args)
            self.assertEqual(args, before, call.__name__)

    def test_what_was_told_changes_no_later_answer(self):
        for call, args in all_calls():
            told = call(*args)
            before = copy.deepcopy(told)
            spoil(told)
            self.assertEqual(call(*args), before, call.__name__)

    def test_what_was_handed_in_changes_nothing_told(self):
        for call, args in all_calls():
            args = copy.deepcopy(args)
            told = call(*args)
            before = copy.deepcopy(told)
            spoil(args)
            self.assertEqual(told, before, call.__name__)

    def test_a_later_call_changes_nothing_told(self):
        calls = all_calls()
        told = [call(*args) for call, args in calls]
        before = copy.deepcopy(told)
        for call, args in calls:
            call(*args)
        self.assertEqual(told, before)

    def test_no_list_is_told_twice_or_handed_back(self):
        for call, args in all_calls():
            # Kept until the end, so that no two things have the same id.
            answer = call(*args)
            told = [id(one) for one in lists_within(answer)]
            handed = [id(one) for one in lists_within(args)]
            self.assertEqual(len(set(told)), len(told), call.__name__)
            self.assertEqual(set(told) & set(handed), set(), call.__name__)

    def test_refusals_change_nothing(self):
        game = purse_game([(1, [(0, 10 ** 60 - 1), (1, 3)]), (0, [(1, 0), (0, -4)])])
        rows = [(1, [(1, 0), (0, 2)]), (0, [(1, 0), (1, 5)])]
        low = game_of([(place % 2, place % 3, [place, 16 - place]) for place in range(17)])
        for call, args in (
            (purse_game, [rows]), (turned_purses, [game]), (needs, [game, [None, None]]),
            (papers, [low]), (is_paper, [low, 0, [None] * 17]),
            (turn_game, [low, [[3, 2, 3]], [[1, 17]]]), (in_turn, [low, [[2, 1, 2]] * 2, [[0, 4]] * 5]),
            (machine_of, [0, [[(3, 1)], [(2, 2)]]]), (told, [(0, [[(3, 0), (1, 0)]]), [0, 1, 2, 0]]),
            (differ, [(0, [[(3, 0), (1, 0)]]), (0, [[(3, 0)]])]),
            (Watch, [1, 1, [("often", 0), ("always", 0), ("often", 0)]]),
            (solve_wishes, [1, 1, [("often", 0), ("always", 0), ("often", 0)]]),
            (solve_wishes, [2, 1, [("only", 1, 0), ("only", 0, 0)] * 3]),
            (WishPlay, [2, 1, [("only", 1, 0), ("only", 0, 0)] * 3]), (RankPlay, [low, 17]), (PursePlay, [game, -1, 5]),
        ):
            before = copy.deepcopy(args)
            self.assertRaises(GarthError, call, *args)
            self.assertEqual(args, before, call.__name__)

    def test_a_runner_keeps_its_machine(self):
        machine = machine_of(0, [[(5, 1), (6, 0)], [(7, 0), (8, 1)]])
        rows = copy.deepcopy(machine[1])
        runner = Runner(machine)
        self.assertEqual(runner.step(0), 5)
        spoil(machine)
        machine[1][0] = machine[1][1] = [(0, 0)]
        self.assertEqual([(runner.step(ask), runner.state) for ask in (1, 0, 1, 0)], [(8, 1), (7, 0), (6, 0), (5, 1)])
        self.assertEqual(told((0, rows), [0, 1, 0, 1]), [5, 8, 7, 6])

    def test_a_machine_is_apart_from_the_rows_that_it_was_made_of(self):
        rows = [[(5, 1), (6, 0)], [(7, 0), (8, 1)]]
        machine = machine_of(0, rows)
        runner = Runner(machine)
        spoil(rows)
        self.assertEqual(machine, (0, [[(5, 1), (6, 0)], [(7, 0), (8, 1)]]))
        self.assertEqual((runner.step(0), runner.step(1)), (5, 8))

    def test_a_runner_does_not_change_its_machine(self):
        machine = machine_of(0, [[(5, 1), (6, 0)], [(7, 0), (8, 1)]])
        before = copy.deepcopy(machine)
        runner = Runner(machine)
        for ask in (0, 1, 0, 0):
            runner.step(ask)
        self.assertRaises(GarthError, runner.step, 2)
        self.assertEqual(machine, before)

    def test_a_watch_keeps_its_wishes(self):
        wishes = [("within", 0, 0, 1), ("often", 0), ("answer", 0, 0)]
        watch = Watch(1, 1, wishes)
        spoil(wishes)
        wishes.clear()
        self.assertEqual((watch.met(), watch.tick(1, 1), watch.met()), ([2], True, [1, 2]))
        self.assertEqual((watch.tick(1, 0), watch.tick(0, 0), watch.met()), (True, False, []))

    def test_what_a_watch_told_stays_and_changes_nothing(self):
        watch = Watch(1, 1, [("often", 0), ("answer", 0, 0)])
        first = watch.met()
        watch.tick(0, 1)
        self.assertEqual(first, [1])
        second = watch.met()
        spoil(second)
        self.assertEqual(watch.met(), [0, 1])
        self.assertTrue(watch.tick(1, 0))
        self.assertEqual(watch.met(), [])

    def test_a_rank_play_keeps_its_game(self):
        game = game_of([(0, 1, [0, 1]), (1, 2, [0, 2]), (0, 0, [1]), (1, 9, [3])])
        before = copy.deepcopy(game)
        play = RankPlay(game, 0)
        play.go()
        play.other(2)
        self.assertEqual(game, before)
        spoil(game)
        game.clear()
        self.assertEqual((play.go(), play.other(0), play.go()), (1, None, 1))
        self.assertRaises(GarthError, play.other, 1)
        self.assertRaises(GarthError, play.other, 99)

    def test_a_purse_play_keeps_its_game(self):
        game = purse_game([(0, [(0, -1), (1, -3)]), (1, [(0, 3), (1, 2)])])
        before = copy.deepcopy(game)
        play = PursePlay(game, 0, 3)
        play.go()
        play.other(1)
        self.assertEqual(game, before)
        game[1][1][0] = (0, -50)
        spoil(game)
        game.clear()
        self.assertEqual((play.other(0), play.left, play.go(), play.left), (None, 5, 1, 2))
        self.assertRaises(GarthError, play.other, 2)

    def test_plays_of_one_game_are_apart(self):
        game = game_of([(0, 1, [0, 1]), (1, 2, [0, 1])])
        one = RankPlay(game, 0)
        other = RankPlay(game, 1)
        one.go()
        one.other(0)
        self.assertEqual((one.at, other.at), (0, 1))
        self.assertEqual(solved(game), ([0, 0], [1, None]))

    def test_a_wish_play_keeps_its_wishes(self):
        for wishes in ([("within", 0, 0, 0), ("only", 0, 0)], [("within", 0, 0, 1), ("never", 0, 0)]):
            expected = ticked_on(1, 1, wishes, [0, 1, 0, 1, 1, 0])
            play = WishPlay(1, 1, wishes)
            spoil(wishes)
            wishes.clear()
            told = [play.kept] + [[None if play.kept else play.now(), play.tick(number)] for number in [0, 1, 0, 1, 1, 0]]
            self.assertEqual(told, expected)

    def test_what_wishes_told_changes_no_play(self):
        wishes = [("within", 0, 0, 0), ("only", 0, 0)]
        play = WishPlay(1, 1, wishes)
        made = solve_wishes(1, 1, wishes)
        spoil(made)
        self.assertEqual([play.tick(asks) for asks in (1, 0, 1)], [1, 0, 1])
        self.assertEqual(ticked_on(1, 1, wishes, [1, 0, 1]), [True, [None, 1], [None, 0], [None, 1]])

    def test_what_texts_told_is_the_askers_own(self):
        for read, text in ((read_game, "a+3 b; b-0 a b"), (read_purses, "a+ a:1; b- a:0"), (read_wishes, "1 1: often 0")):
            first = read(text)
            before = copy.deepcopy(first)
            second = read(text)
            spoil(second)
            self.assertEqual(first, before)
            self.assertEqual(read(text), before)


if __name__ == "__main__":
    unittest.main()
