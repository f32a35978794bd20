"""Point 42: the desk, row by row."""

import copy
import itertools
import random
import unittest

from rankgarth.cuts import solved
from rankgarth.desk import Desk
from rankgarth.errors import NoAmount, NoMove, NoName, NoRank, NoRow, NoText, NoWay, NoWish, TooMany
from rankgarth.games import turned
from rankgarth.needs import solved_purses
from rankgarth.purses import turned_purses
from rankgarth.serve import solve_wishes
from rankgarth.texts import shown_game, shown_purses, shown_wishes
from tests.samples import random_games, random_purse_games, refusal
from tests.test_serve import BROKEN, KEPT
from tests.test_texts import NO_TEXTS, STRANGE, names_for

GAME = "a+1 b a; b-2 a c; c+0 b d; d-5 d"
PURSE = "a+ b:-3 a:-1; b- b:2 a:3; c- c:-1 a:-1"
KEEP = "1 1: within 0 0 0; only 0 0"
BREAK = "1 1: within 0 0 2; never 0 0"
FULL = [f"game g {GAME}", f"purse p {PURSE}", f"wish k {KEEP}", f"wish w {BREAK}"]
PLAYS = ["play g a", "play p a 3", "play p c 2", "play k", "play w"]


def desk_told(*rows):
    desk = Desk()
    for row in rows:
        desk.say(row)
    return desk


def desk_state(desk):
    """All that a desk can tell, asked of a copy."""
    desk = copy.deepcopy(desk)
    shown = []
    for name in ("g", "p", "k", "w", "x", "n"):
        shown.append(refusal(desk.say, f"show {name}") or desk.say(f"show {name}"))
    for row in ("left", "now", "go", "go a", "go b", "go c", "tick 0", "tick 1", "now", "left", "go", "go b"):
        before = copy.deepcopy(desk)
        shown.append(refusal(before.say, row) or desk.say(row))
    return shown


class DeskTest(unittest.TestCase):
    def check(self, desk, rows):
        for row, answer in rows:
            told = desk.say(row)
            self.assertIs(type(told), str)
            self.assertEqual(told, answer, row)

    def check_refused(self, desk, rows):
        before = desk_state(desk)
        for row, expected in rows:
            self.assertIs(refusal(desk.say, row), expected, row)
            self.assertEqual(desk_state(desk), before, row)


class PutTest(DeskTest):
    def test_put_and_shown(self):
        self.check(Desk(), [
            ("game g a+3 b a b; b-0 a", "ok"), ("show g", "a+3 a b; b-0 a"),
            ("purse p a+ b:5 a:-3; b- a:0", "ok"), ("show p", "a+ a:-3 b:5; b- a:0"),
            ("wish w 2 1: answer 0 0; often 0", "ok"), ("show w", "2 1: answer 0 0; often 0"),
            ("game abcdefgh a-40 a", "ok"), ("show abcdefgh", "a-40 a"), ("show g", "a+3 a b; b-0 a"),
            ("wish game 1 1:", "ok"), ("show game", "1 1:"),
        ])

    def test_the_text_without_signs(self):
        self.check(Desk(), [("game g ", "ok"), ("show g", ""), ("purse p ", "ok"), ("show p", "")])
        self.check_refused(Desk(), [("wish w ", NoText), ("game g", NoRow), ("purse p", NoRow), ("wish w", NoRow)])

    def test_put_anew_and_of_another_kind(self):
        self.check(Desk(), [
            ("game g a+0 a", "ok"), ("game g b-1 b", "ok"), ("show g", "b-1 b"), ("won g b", "-"),
            ("purse g a+ a:0", "ok"), ("show g", "a+ a:0"), ("need g a", "0"),
            ("wish g 1 1:", "ok"), ("show g", "1 1:"), ("serve g", "kept"), ("game g ", "ok"), ("show g", ""),
        ])

    def test_drop(self):
        desk = desk_told(*FULL)
        for name in "gpk":
            self.check(desk, [(f"drop {name}", "ok")])
            self.check_refused(desk, [(f"show {name}", NoName), (f"drop {name}", NoName)])
        self.check(desk, [("show w", BREAK), ("game g a+0 a", "ok"), ("show g", "a+0 a")])

    def test_two_desks(self):
        one = desk_told("game g a+0 a")
        self.check_refused(Desk(), [("show g", NoName)])
        self.check(one, [("show g", "a+0 a")])

    def test_refused_texts(self):
        many = "; ".join(f"{name}+2 {name}" for name in names_for(161))
        coins = "; ".join(f"{name}+ {name}:1" for name in names_for(17))
        desk = desk_told(*FULL, "play g a")
        self.check_refused(desk, [
            ("game g a+0 a;", NoText), ("game g  a+0 a", NoText), ("game g a+0 a ", NoText), ("game g  ", NoText),
            ("game g a+ a:1", NoText), ("game g a+0 b", NoName), ("game g a+0 a; a+0 a", NoName), ("game n a+0", NoWay),
            ("game n a+41 a", NoRank), (f"game n {many}", TooMany), ("game n a+0 a\n", NoText),
            ("purse p a+ a:-0", NoText), ("purse p a+0 a", NoText), ("purse p a+ b:1", NoName), ("purse p a+", NoWay),
            ("purse p a+ a:1 a:2", NoWay), (f"purse p {coins}", TooMany), ("purse p a+ a:" + "1" * 61, NoText),
            ("wish w 1 4:", NoText), ("wish w 1 1: ", NoText), ("wish w 1 1: often 1", NoWish), ("wish w 1 1: x", NoWish),
            ("wish w 1 1:" + " often 0;" * 6 + " often 0", TooMany), ("wish w 1 1:" + " x 0;" * 6 + " x 0", TooMany),
        ])

    def test_wishes_are_refused_as_they_are_when_served(self):
        self.check(Desk(), [("wish w 2 1:" + ";".join([" only 0 0"] * 4), "ok"), ("serve w", "kept")])
        self.check(Desk(), [("wish w 1 1: within 0 0 4; within 0 0 4; only 0 0", "ok"), ("serve w", "kept")])
        self.check_refused(desk_told(*FULL), [
            ("wish w 2 1:" + ";".join([" only 0 0"] * 5), TooMany),
            ("wish n 3 3:" + ";".join([" within 0 0 6"] * 6), TooMany),
            ("wish n 3 3:" + ";".join([" within 0 0 6"] * 5) + "; often 3", NoWish),
            ("wish n 3 3:" + ";".join([" within 0 0 6"] * 5) + "; often 03", NoText),
        ])

    def test_names_that_are_none(self):
        desk = desk_told(*FULL)
        for name in ("A", "abcdefghi", "a1", "1", "-", "", "a_", "a;", "\xe9", "g\n"):
            self.check_refused(desk, [
                (f"game {name} a+0 a", NoName), (f"purse {name} a+ a:1", NoName), (f"wish {name} 1 1:", NoName),
                # The name goes ahead of the text.
                (f"game {name} x", NoName), (f"purse {name} ", NoName), (f"wish {name} ", NoName),
                (f"drop {name}", NoName), (f"show {name}", NoName), (f"turn {name} g", NoName), (f"turn n {name}", NoName),
                (f"won {name} a", NoName), (f"need {name} a", NoName), (f"serve {name}", NoName), (f"play {name}", NoName),
                (f"play {name} a", NoName), (f"play {name} a 3", NoName), (f"won g {name}", NoName),
                (f"need p {name}", NoName), (f"play g {name}", NoName), (f"play p {name} 3", NoName),
            ])


class TurnTest(DeskTest):
    def test_turn(self):
        self.check(desk_told("game g a+3 b; b-0 a", "purse p a+ b:5 c:-3; b- a:0; c- c:1"), [
            ("turn n g", "ok"), ("show n", "a-4 b; b+1 a"), ("show g", "a+3 b; b-0 a"),
            ("turn q p", "ok"), ("show q", "a- b:-16 c:8; b+ a:-1; c+ c:-4"),
            ("turn g g", "ok"), ("show g", "a-4 b; b+1 a"), ("turn g p", "ok"), ("need g a", "none"),
            ("turn x n", "ok"), ("show x", "a+5 b; b-2 a"),
        ])

    def test_no_places(self):
        self.check(desk_told("game g ", "purse p "), [("turn n g", "ok"), ("show n", ""), ("turn p p", "ok"), ("show p", "")])

    def test_turned_about_the_other_hand_wins(self):
        for game in random_games(20, 6, list(range(39)), 42):
            names = names_for(len(game))
            desk = desk_told(f"game g {shown_game(names, game)}", "turn t g")
            self.check(desk, [("show t", shown_game(names, turned(game)))])
            for name in names:
                self.assertEqual({desk.say(f"won g {name}"), desk.say(f"won t {name}")}, {"+", "-"})

    def test_refused(self):
        many = "; ".join(f"{name}+2 {name}" for name in names_for(17))
        desk = desk_told(*FULL, "game n a+40 a", f"game x {many}", "purse y a+ a:" + "9" * 60 + "; b- b:0")
        self.check_refused(desk, [
            ("turn g n", NoRank), ("turn g x", TooMany), ("turn g y", NoAmount), ("turn p y", NoAmount),
            ("turn g w", NoName), ("turn g o", NoName), ("turn G g", NoName), ("turn G n", NoName), ("turn g", NoRow),
            ("turn g g g", NoRow), ("turn", NoRow), ("turn  g", NoName), ("turn g ", NoName),
        ])

    def test_just_what_is_not_refused(self):
        # Two places: -2 c - 1 may have sixty figures.
        top = str((10 ** 60 - 2) // 2)
        self.check(desk_told("game g a+39 a", f"purse p a+ a:{top}; b- b:0"), [
            ("turn n g", "ok"), ("show n", "a-40 a"), ("turn q p", "ok"), ("show q", "a- a:-" + "9" * 60 + "; b+ b:-1"),
        ])
        self.check_refused(desk_told(f"purse p a+ a:-{int(top) + 2}; b- b:0"), [("turn q p", NoAmount)])


class AskedTest(DeskTest):
    def test_won(self):
        self.check(desk_told(*FULL), [("won g a", "+"), ("won g b", "+"), ("won g c", "+"), ("won g d", "-")])

    def test_need(self):
        self.check(desk_told(*FULL), [("need p a", "3"), ("need p b", "0"), ("need p c", "none")])
        self.check(desk_told("purse p a- b:-" + "9" * 60 + "; b+ b:0"), [("need p a", "9" * 60), ("need p b", "0")])

    def test_serve(self):
        self.check(desk_told(*FULL), [("serve k", "kept"), ("serve w", "broken")])

    def test_as_the_modules_tell_it(self):
        for game in random_games(30, 8, list(range(41)), 7):
            names = names_for(len(game))
            desk = desk_told(f"game g {shown_game(names, game)}")
            self.assertEqual([desk.say(f"won g {name}") for name in names], ["+-"[hand] for hand in solved(game)[0]])
        for game in random_purse_games(30, 6, [-9, -2, -1, 0, 1, 3], 7):
            names = names_for(len(game))
            desk = desk_told(f"purse p {shown_purses(names, game)}")
            needs = [desk.say(f"need p {name}") for name in names]
            self.assertEqual(needs, ["none" if need is None else str(need) for need in solved_purses(game)[0]])
            turned_needs = [need is None for need in solved_purses(turned_purses(game))[0]]
            self.assertEqual([need != "none" for need in needs], turned_needs)
        for asks, deeds, wishes in KEPT + BROKEN:
            desk = desk_told(f"wish w {shown_wishes(asks, deeds, wishes)}")
            self.assertEqual(desk.say("serve w"), solve_wishes(asks, deeds, wishes)[0])

    def test_the_kind_that_the_row_can_be_told_of(self):
        desk = desk_told(*FULL, "game n ", "purse x ")
        self.check_refused(desk, [
            ("won p a", NoName), ("won w a", NoName), ("won o a", NoName), ("won g e", NoName), ("won n a", NoName),
            ("need g a", NoName), ("need w a", NoName), ("need o a", NoName), ("need p d", NoName), ("need x a", NoName),
            ("serve g", NoName), ("serve p", NoName), ("serve o", NoName), ("show o", NoName), ("drop o", NoName),
            ("play g", NoName), ("play p", NoName), ("play o", NoName), ("play p a", NoName), ("play w a", NoName),
            ("play o a", NoName), ("play g a 3", NoName), ("play w a 3", NoName), ("play o a 3", NoName),
            ("play g e", NoName), ("play p d 3", NoName), ("play n a", NoName), ("play x a 0", NoName),
        ])


class NoRowTest(DeskTest):
    def test_no_such_row(self):
        for rows in ([], FULL, FULL + ["play g a"], FULL + ["play w"]):
            self.check_refused(desk_told(*rows), [(row, NoRow) for row in (
                "", " ", "  ", "x", "Game g a+0 a", "GO", "gO", "go\n", "games g a+0 a", "game", "game ", "purse ", "wish ",
                "game g", "drop", "drop g g", "drop  g", "drop g ", " drop g", "show", "show g a", "show  g", "show g ",
                "turn g", "turn n g g", "turn n  g", "turn n g ", "won", "won g", "won g a b", "won g  a", "won g a ",
                "need p", "need p a b", "need  p a", "serve", "serve w w", "serve w ", "serve  w", "play", "play p a 3 3",
                "play p a ", "play p  3 3", "play p a 3 ", "play w  3 ", "go a b", "go  a", "go a ", "go  ", " go",
                "left a", "left ", " left", "now ", "now 1", "tick", "tick ", "tick 1 1", "tick 1 ", "tick  1", "won\tg a",
                "play\tg a", "drop\ng", "game\tg a+0 a", "exit", "help", "plays g a", "tick\t1", "go\ta",
            )])

    def test_no_text(self):
        self.check_refused(desk_told(*FULL), [(wrong, NoRow) for wrong in NO_TEXTS + (b"go", ["go"])])

    def test_a_word_without_signs(self):
        # It stands in the place of a name or of a place: the row is one of those listed.
        self.check_refused(desk_told(*FULL), [
            ("drop ", NoName), ("show ", NoName), ("serve ", NoName), ("play ", NoName), ("play  ", NoName), ("won  ", NoName),
            ("won g ", NoName), ("won  a", NoName), ("need p ", NoName), ("play g ", NoName), ("play  a", NoName),
            ("play   3", NoName), ("play p  3", NoName), ("play  a 3", NoName), ("game  a+0 a", NoName), ("game  ", NoName),
            ("wish  1 1:", NoName), ("go ", NoMove),
        ])
        self.check_refused(desk_told(*FULL, "play g d"), [("go ", NoMove)])

    def test_strange_signs(self):
        for sign in STRANGE:
            self.check_refused(desk_told(*FULL, "play k"), [
                (f"tick {sign}", NoRow), (f"tick 1{sign}", NoRow), (f"go{sign}", NoRow), (f"play p a {sign}", NoRow),
                (f"drop {sign}", NoName), (f"won g {sign}", NoName), (f"go {sign}", NoMove), (sign, NoRow),
            ])

    def test_purses(self):
        great = "9" * 70
        for purse in ("71" + "0" * 69, "00", "01", "-1", "+1", "-0", "1.0", "x", "1_0", "3a"):
            self.check_refused(desk_told(*FULL, "play p a 3"), [(f"play p a {purse}", NoRow)])
            # A row that is none goes ahead of a name that is none.
            self.check_refused(desk_told(*FULL), [(f"play O A {purse}", NoRow), (f"play g e {purse}", NoRow)])
        self.check(desk_told(*FULL), [
            (f"play p a {great}", "+"), ("left", great), ("play p a 0", "-"), ("left", "0"), (f"play p c {great}", "-"),
            ("play p a 1" + "0" * 69, "+"), ("left", "1" + "0" * 69),
        ])

    def test_numbers(self):
        desk = desk_told(*FULL, "play k")
        for number in ("1234567890", "0000000001", "00", "01", "-1", "+1", "-0", "x", "1.0", "0x1"):
            self.check_refused(desk, [(f"tick {number}", NoRow)])
        self.check_refused(desk, [(f"tick {number}", NoMove) for number in ("2", "3", "999999999", "100000000")])
        self.check_refused(desk_told(*FULL), [("tick 1234567890", NoRow), ("tick 1", NoMove), ("tick 999999999", NoMove)])
        self.check(desk, [("tick 1", "1"), ("tick 0", "0")])


class PlayTest(DeskTest):
    def test_a_play_of_ranks(self):
        desk = desk_told(*FULL)
        self.check(desk, [("play g a", "+"), ("go", "b"), ("go a", "ok"), ("go", "b"), ("go c", "ok"), ("go", "b")])
        self.check_refused(desk, [("go", NoMove), ("go b", NoMove), ("go d", NoMove), ("go e", NoMove), ("go A", NoMove),
                                  ("go ", NoMove), ("go abcdefghi", NoMove), ("go 1", NoMove), ("left", NoMove),
                                  ("now", NoMove), ("tick 0", NoMove)])
        self.check(desk, [("go a", "ok")])
        self.check_refused(desk, [("go b", NoMove), ("go a", NoMove), ("go e", NoMove)])
        self.check(desk, [("play g d", "-"), ("go", "d"), ("go", "d")])

    def test_a_play_of_the_other_hand(self):
        desk = desk_told("game g one+3 two; two-0 one two")
        self.check(desk, [("play g one", "-"), ("go two", "ok"), ("go", "one"), ("go two", "ok"), ("go", "one")])

    def test_a_play_of_the_keeper(self):
        desk = desk_told(*FULL)
        self.check(desk, [
            ("play p a 3", "+"), ("left", "3"), ("go", "b"), ("left", "0"), ("go b", "ok"), ("left", "2"), ("left", "2"),
            ("go a", "ok"), ("left", "5"), ("go", "b"), ("left", "2"),
        ])
        self.check_refused(desk, [("go", NoMove), ("go c", NoMove), ("go x", NoMove), ("now", NoMove), ("tick 0", NoMove)])

    def test_a_play_of_the_spender(self):
        desk = desk_told(*FULL)
        self.check(desk, [("play p c 1", "-"), ("go", "c"), ("left", "0"), ("go", "c"), ("left", "-1"), ("left", "-1")])
        self.check_refused(desk, [("go", NoMove), ("go c", NoMove), ("go a", NoMove), ("go x", NoMove)])
        self.check(desk, [("left", "-1"), ("play p a 2", "-")])
        self.check(desk, [("go a", "ok"), ("left", "1"), ("go a", "ok"), ("go a", "ok"), ("left", "-1")])
        self.check_refused(desk, [("go a", NoMove), ("go b", NoMove), ("go", NoMove)])

    def test_a_play_that_serves(self):
        desk = desk_told(*FULL)
        self.check(desk, [("play k", "kept"), ("tick 0", "0"), ("tick 1", "1"), ("tick 0", "0"), ("tick 1", "1")])
        self.check_refused(desk, [("now", NoMove), ("tick 2", NoMove), ("go", NoMove), ("go a", NoMove), ("left", NoMove)])

    def test_a_play_that_breaks(self):
        desk = desk_told(*FULL)
        self.check(desk, [("play w", "broken")])
        raised = []
        for turn in range(8):
            self.check_refused(desk, [("tick 2", NoMove), ("go", NoMove), ("go a", NoMove), ("left", NoMove)])
            raised.append(desk.say("now"))
            self.check(desk, [("now", raised[-1]), ("tick 0", "ok")])
        self.assertIn("1", raised)
        self.assertLessEqual(set(raised), {"0", "1"})

    def test_asks_and_deeds_of_more_bits(self):
        desk = desk_told("wish w 3 2: within 2 1 0; within 0 0 0; not 1 0", "wish k 3 3: within 2 2 0; only 2 2; never 0 0")
        self.check(desk, [("play w", "broken"), ("tick 3", "ok")])
        self.assertIn(desk.say("now"), list("01234567"))
        self.check_refused(desk, [("tick 4", NoMove), ("tick 7", NoMove)])
        self.check(desk, [("play k", "kept")])
        for asks in range(8):
            deeds = int(desk.say(f"tick {asks}"))
            self.assertEqual((deeds & 4, deeds & 1), (asks & 4, 0))
        self.check_refused(desk, [("tick 8", NoMove)])

    def test_no_play(self):
        for desk in (Desk(), desk_told(*FULL)):
            self.check_refused(desk, [(row, NoMove) for row in ("go", "go a", "go A", "go ", "left", "now", "tick 0", "tick 9")])

    def test_a_play_begins_in_the_place_of_any_other(self):
        for one, other in itertools.product(PLAYS, repeat=2):
            self.assertEqual(desk_state(desk_told(*FULL, one, other)), desk_state(desk_told(*FULL, other)))

    def test_a_play_goes_on_with_what_stood_by_the_name(self):
        for play in PLAYS:
            name = play.split(" ")[1]
            expected = desk_state(desk_told(*FULL, play))[6:]
            for rows in (
                [f"drop {name}"], [f"game {name} b+0 b"], [f"purse {name} a+ a:-1"], [f"wish {name} 1 1:"],
                [f"drop {name}", f"game {name} d+3 b; a-0 d; b+2 a"], ["turn g p", "turn p g", "turn w g", "turn k p"],
                ["drop g", "drop p", "drop w", "drop k"],
            ):
                desk = desk_told(*FULL, play, *rows)
                self.assertEqual(desk_state(desk)[6:], expected, (play, rows))

    def test_asking_does_not_touch_the_play(self):
        rows = ["won g a", "need p a", "serve k", "serve w", "show g", "show p", "show w", "game x a+0 a", "turn n g"]
        for play in PLAYS:
            desk = desk_told(*FULL, play, *rows)
            self.assertEqual(desk_state(desk)[6:], desk_state(desk_told(*FULL, play))[6:])

    def test_a_refused_play_leaves_the_old_one(self):
        for play in PLAYS:
            self.check_refused(desk_told(*FULL, play), [
                ("play g e", NoName), ("play o", NoName), ("play p a", NoName), ("play g a 3", NoName), ("play p a 03", NoRow),
                ("play p e 3", NoName), ("play g", NoName), ("play w a", NoName),
            ])

    def test_random_plays_of_ranks_are_not_lost(self):
        source = random.Random(42)
        for game in random_games(30, 6, list(range(41)), 43):
            names = names_for(len(game))
            desk = desk_told(f"game g {shown_game(names, game)}")
            for start, name in enumerate(names):
                hand = "+-".index(desk.say(f"play g {name}"))
                place = start
                met = []
                for turn in range(120):
                    if game[place][0] == hand:
                        place = names.index(desk.say("go"))
                    else:
                        way = source.choice(game[place][2])
                        self.assertEqual(desk.say(f"go {names[way]}"), "ok")
                        place = way
                    met.append(place)
                # A ring at the end, which the other hand might go for ever.
                first = len(met) - 1 - met[-2::-1].index(met[-1]) - 1
                self.assertEqual(max(game[place][1] for place in met[first:-1]) % 2, hand)


if __name__ == "__main__":
    unittest.main()
