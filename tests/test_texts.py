"""Points 40 and 41: texts of games, of purse games and of wishes."""

import itertools
import random
import unittest

from rankgarth.errors import NoAmount, NoHand, NoName, NoRank, NoText, NoWay, NoWish, TooMany
from rankgarth.games import game_of
from rankgarth.purses import purse_game
from rankgarth.texts import read_game, read_purses, read_wishes, shown_game, shown_purses, shown_wishes
from tests.samples import (
    all_wishes, great_games, great_purse_games, random_games, random_purse_games, refusal, small_games,
    small_purse_games,
)

NO_TEXTS = (None, 0, 5, True, [], ["a+0 a"], ("a+0 a",), {}, b"a+0 a", b"", 1.5)
# Signs that Python counts among the blanks, the small letters or the figures.
STRANGE = ("\t", "\n", "\r", "\x0b", "\xa0", "\u2003", "\xe9", "\xdf", "\u0663", "\xb2", "\uff13", "\x00")


def names_for(count):
    """Unlike names of one to eight letters, not in the order of letters."""
    letters = "zyxwvutsrqponmlkjihgfedcba"
    return [(letters[number % 26] + letters[number // 26]) * (1 + number % 4) for number in range(count)]


def text_by_the_words(names, game):
    text = ""
    for number, (hand, rank, ways) in enumerate(game):
        text += "; " * (number > 0) + names[number] + ["+", "-"][hand] + str(rank)
        for way in ways:
            text += " " + names[way]
    return text


def purse_text_by_the_words(names, game):
    text = ""
    for number, (hand, ways) in enumerate(game):
        text += "; " * (number > 0) + names[number] + ["+", "-"][hand]
        for place, amount in ways:
            text += " " + names[place] + ":" + str(amount)
    return text


class GameTextTest(unittest.TestCase):
    def test_read(self):
        self.assertEqual(read_game("a+3 b c; b-0 a; c+40 c"), (["a", "b", "c"], [(0, 3, [1, 2]), (1, 0, [0]), (0, 40, [2])]))
        self.assertEqual(read_game("abcdefgh-0 abcdefgh"), (["abcdefgh"], [(1, 0, [0])]))
        self.assertEqual(read_game("game+1 z; z-2 game"), (["game", "z"], [(0, 1, [1]), (1, 2, [0])]))

    def test_the_text_without_signs(self):
        self.assertEqual(read_game(""), ([], []))
        self.assertEqual(shown_game([], []), "")

    def test_ways_in_any_order_and_twice(self):
        names, game = read_game("b+0 a b a; a-1 b a b")
        self.assertEqual((names, game), (["b", "a"], [(0, 0, [0, 1]), (1, 1, [0, 1])]))
        # The order of the game is that of its places, not that of the letters.
        self.assertEqual(shown_game(names, game), "b+0 b a; a-1 b a")

    def test_shown(self):
        self.assertEqual(shown_game(["a", "b"], [(0, 3, [0, 1]), (1, 40, [0])]), "a+3 a b; b-40 a")

    def test_read_and_shown(self):
        for game in small_games() + random_games(60, 16, list(range(41)), 40) + great_games():
            names = names_for(len(game))
            text = text_by_the_words(names, game)
            self.assertEqual(shown_game(names, game), text)
            self.assertEqual(read_game(text), (names, game))

    def test_kinds(self):
        told = read_game("a+3 b; b-0 a")
        self.assertEqual([type(part) for part in (told, told[0], told[1], told[1][0], told[1][0][2])],
                         [tuple, list, list, tuple, list])

    def test_no_text(self):
        for text in (
            " ", ";", "; ", "a", "a+", "a-", "+0", "+0 a", "a0 a", "a+0  a", "a+0 a ", " a+0 a", "a +0 a", "a+ 0 a",
            "a+0 a;", "a+0 a; ", "; a+0 a", "a+0 a;b+0 a", "a+0 a;  b+0 a", "a+0 a ; b+0 a", "a+0 a;; b+0 a",
            "a+0 a; ; b+0 a", "a+0 a, b+0 a", "a+0 a;\nb+0 a", "a+0 a\n", "\na+0 a", "a+0\ta",
            "abcdefghi+0 abcdefghi", "a+0 abcdefghi", "A+0 A", "a+0 A", "aB+0 aB", "a1+0 a1", "a_+0 a_", "a+0 a1",
            "a+00 a", "a+01 a", "a+000000001 a", "a+1234567890 a", "a+1000000000 a", "a+-1 a", "a-+1 a", "a++1 a",
            "a--1 a", "a+1.0 a", "a+1_0 a", "a+x a", "a+0a a", "a*0 a", "a0", "a+0 a+0", "a+0 a:1", "a+ a:1", "a+0 -",
            "a+0 a;b", "a+ 3 a", "a+3, a", "a+0x1 a", "a+(0) a",
        ):
            self.assertIs(refusal(read_game, text), NoText, text)

    def test_strange_signs(self):
        for sign in STRANGE:
            for text in (f"{sign}+0 {sign}", f"a{sign}+0 a", f"a+{sign} a", f"a+1{sign} a", f"a+0 a{sign}",
                         f"a+0{sign}a", f"a+0 a;{sign}b+0 a", f"{sign}a+0 a", sign):
                self.assertIs(refusal(read_game, text), NoText, text)

    def test_no_text_at_all(self):
        for wrong in NO_TEXTS:
            self.assertIs(refusal(read_game, wrong), NoText, wrong)

    def test_no_name(self):
        for text in ("a+0 a; a+0 a", "a+0 a; b+0 b; a-1 b", "a+0 b", "a+0 a; b+0 a c", "a+0 aa", "abcdefgh+0 abcdefg",
                     "a+0; a+0", "a+0 a; a+0"):
            self.assertIs(refusal(read_game, text), NoName, text)

    def test_refused_as_rows_are(self):
        many = [f"{name}+2 {name}" for name in names_for(161)]
        for text, expected in (
            ("a+0", NoWay), ("a-3; b+0 a", NoWay), ("a+0 b; b-1", NoWay),
            ("a+41 a", NoRank), ("a+999999999 a", NoRank), ("a+0 a; b-100 b", NoRank),
            ("a+0; b+41 b", NoWay), ("a+41; b+0", NoRank), ("a+40 a; b-41", NoRank),
            ("; ".join(many), TooMany), ("; ".join(many[:160]), None), ("; ".join(many[:160]) + "; a+41", TooMany),
            ("; ".join(many[:16]) + "; a+3 a", TooMany), ("; ".join(many[:15]) + "; a+3 a", None),
            ("; ".join(many[:16]) + "; a+3 a; b+41 b", NoRank), ("; ".join(many[:16]) + "; a+3", NoWay),
        ):
            self.assertIs(refusal(read_game, text), expected, text)

    def test_no_text_goes_ahead_of_no_name_and_that_of_the_rest(self):
        many = "; ".join(f"{name}+2 {name}" for name in names_for(170))
        for text, expected in (
            ("a+0 b; b0 a", NoText), ("a+0 a; a+0 a;", NoText), ("a+41 c; A+0", NoText), (many + ";", NoText),
            ("a+41 b", NoName), ("a+0; b+0 c", NoName), ("a+0; a+0 a", NoName), (many + "; zz+0 a", NoName),
            (many + "; a+0 zzz", NoName), ("a+41 a; a+0 a", NoName), ("a+0 b; a+0123 a", NoText),
        ):
            self.assertIs(refusal(read_game, text), expected, text)


class PurseTextTest(unittest.TestCase):
    def test_read(self):
        self.assertEqual(read_purses("a+ b:5 c:-3; b- a:0; c- c:1"),
                         (["a", "b", "c"], [(0, [(1, 5), (2, -3)]), (1, [(0, 0)]), (1, [(2, 1)])]))
        self.assertEqual(read_purses("abcdefgh- abcdefgh:-1"), (["abcdefgh"], [(1, [(0, -1)])]))

    def test_the_text_without_signs(self):
        self.assertEqual(read_purses(""), ([], []))
        self.assertEqual(shown_purses([], []), "")

    def test_ways_in_any_order(self):
        names, game = read_purses("b+ a:2 b:-7; a- b:0")
        self.assertEqual((names, game), (["b", "a"], [(0, [(0, -7), (1, 2)]), (1, [(0, 0)])]))
        self.assertEqual(shown_purses(names, game), "b+ b:-7 a:2; a- b:0")

    def test_amounts_of_sixty_figures(self):
        for amount in ("9" * 60, "-" + "9" * 60, "1" + "0" * 59, "-1" + "0" * 59):
            self.assertEqual(read_purses("a+ a:" + amount), (["a"], [(0, [(0, int(amount))])]))
            self.assertEqual(shown_purses(*read_purses("a+ a:" + amount)), "a+ a:" + amount)
        for amount in ("9" * 61, "-" + "9" * 61, "1" + "0" * 60, "-1" + "0" * 60, "1" * 5000):
            self.assertIs(refusal(read_purses, "a+ a:" + amount), NoText)

    def test_read_and_shown(self):
        for game in small_purse_games() + random_purse_games(60, 16, [-30, -1, 0, 1, 9], 40) + great_purse_games():
            names = names_for(len(game))
            text = purse_text_by_the_words(names, game)
            self.assertEqual(shown_purses(names, game), text)
            self.assertEqual(read_purses(text), (names, game))

    def test_kinds(self):
        told = read_purses("a+ b:3; b- a:0")
        self.assertEqual([type(part) for part in (told, told[0], told[1], told[1][0], told[1][0][1], told[1][0][1][0])],
                         [tuple, list, list, tuple, list, tuple])

    def test_no_text(self):
        for text in (
            " ", ";", "; ", "a", "a+0 a:1", "a+ a", "a+ a:", "a+ :1", "a+ a:1 ", " a+ a:1", "a+  a:1", "a+ a :1",
            "a+ a: 1", "a+ a:1;", "a+ a:1; ", "; a+ a:1", "a+ a:1;b- a:1", "a+ a:1;  b- a:1", "a + a:1", "a+a:1",
            "a+ a:-0", "a+ a:00", "a+ a:01", "a+ a:-01", "a+ a:+1", "a+ a:--1", "a+ a:-", "a+ a:1-", "a+ a:1:2",
            "a+ a::1", "a+ a:1.5", "a+ a:1_0", "a+ a:x", "a+ A:1", "A+ A:1", "abcdefghi+ abcdefghi:1",
            "a+ abcdefghi:1", "a+ a1:1", "+ a:1", "a++ a:1", "a+- a:1", "a-+ a:1", "a+ a;1", "a+ a:1\n", "a+ a:1,",
            "a: a:1", "a+ ", "a+ ; b- a:1",
        ):
            self.assertIs(refusal(read_purses, text), NoText, text)

    def test_strange_signs(self):
        for sign in STRANGE:
            for text in (f"{sign}+ {sign}:1", f"a{sign}+ a:1", f"a+{sign}a:1", f"a+ a:{sign}", f"a+ a:1{sign}",
                         f"a+ a{sign}:1", f"a+ a:-{sign}1", f"a+ a:{sign}1", f"a+ a:1;{sign}b+ a:1", sign):
                self.assertIs(refusal(read_purses, text), NoText, text)

    def test_no_text_at_all(self):
        for wrong in NO_TEXTS:
            self.assertIs(refusal(read_purses, wrong), NoText, wrong)

    def test_refusals_in_their_order(self):
        many = [f"{name}- {name}:2" for name in names_for(17)]
        for text, expected in (
            ("a+ a:1; a+ a:1", NoName), ("a+ b:1", NoName), ("a+; b- c:1", NoName), ("a+ a:1 a:2 b:1", NoName),
            ("a+", NoWay), ("a+ a:1; b-", NoWay), ("a+ a:1 a:2", NoWay), ("a+ a:1 a:1", NoWay),
            ("; ".join(many), TooMany), ("; ".join(many[:16]), None), ("; ".join(many) + "; b+", TooMany),
            ("; ".join(many) + "; b+ c:1", NoName), ("; ".join(many) + "; b+ b:-0", NoText), ("a+; a+ a:" + "1" * 61, NoText),
            ("a+ b:1; b0 a:1", NoText),
        ):
            self.assertIs(refusal(read_purses, text), expected, text)

    def test_what_a_text_can_not_tell_is_refused_of_rows_alone(self):
        self.assertIs(refusal(purse_game, [(0, [(0, 10 ** 60)])]), NoAmount)
        self.assertIs(refusal(game_of, [(2, 0, [0])]), NoHand)


class WishTextTest(unittest.TestCase):
    def test_read(self):
        self.assertEqual(read_wishes("2 1: answer 0 0; often 0"), (2, 1, [("answer", 0, 0), ("often", 0)]))
        self.assertEqual(read_wishes("1 1:"), (1, 1, []))
        self.assertEqual(read_wishes("3 3: within 2 1 6"), (3, 3, [("within", 2, 1, 6)]))
        self.assertEqual(read_wishes("1 2: never 0 1; never 0 1"), (1, 2, [("never", 0, 1)] * 2))

    def test_each_number_of_asks_and_deeds(self):
        for asks, deeds in itertools.product((1, 2, 3), repeat=2):
            self.assertEqual(read_wishes(f"{asks} {deeds}:"), (asks, deeds, []))
            self.assertEqual(shown_wishes(asks, deeds, []), f"{asks} {deeds}:")

    def test_shown(self):
        self.assertEqual(shown_wishes(2, 1, [("answer", 0, 0), ("often", 0)]), "2 1: answer 0 0; often 0")
        self.assertEqual(shown_wishes(1, 3, [("within", 0, 2, 6)]), "1 3: within 0 2 6")

    def test_read_and_shown(self):
        source = random.Random(41)
        for asks, deeds in itertools.product((1, 2, 3), repeat=2):
            each = all_wishes(asks, deeds)
            for number in range(20):
                wishes = [source.choice(each) for wish in range(source.randint(0, 6))]
                text = f"{asks} {deeds}:"
                for place, wish in enumerate(wishes):
                    text += ";" * (place > 0) + "".join(f" {part}" for part in wish)
                self.assertEqual(shown_wishes(asks, deeds, wishes), text)
                self.assertEqual(read_wishes(text), (asks, deeds, wishes))

    def test_kinds(self):
        told = read_wishes("1 1: often 0")
        self.assertEqual([type(part) for part in (told, told[0], told[2], told[2][0], told[2][0][0], told[2][0][1])],
                         [tuple, int, list, tuple, str, int])

    def test_no_text(self):
        for text in (
            "", " ", ":", "1:", "1 1", "1 1 ", "11:", "0 1:", "1 0:", "4 1:", "1 4:", "01 1:", "1 01:", "10 1:", "-1 1:",
            "+1 1:", " 1 1:", "1  1:", "1 1 :", "1 1 1:", "1,1:", "a 1:", "1 1: ", "1 1:often 0", "1 1:  often 0",
            "1 1: often 0;", "1 1: often 0; ", "1 1: often 0 ", "1 1: often  0", "1 1: often 0;often 0",
            "1 1: often 0;  often 0", "1 1: often 0 ; often 0", "1 1:; often 0", "1 1: ; often 0", "1 1;",
            "1 1: Often 0", "1 1: oft3n 0", "1 1: whenever 0 00", "1 1: whenevers 0", "1 1: often 00", "1 1: often 01",
            "1 1: often -1", "1 1: often +0", "1 1: often 1234567890", "1 1: often x", "1 1: 0 often", "1 1: 0",
            "1 1:: often 0", "1 1: often: 0", "1 1: often 0:", "1 1: often 0, often 0", "1 1: often 0\n", "1 1:\n",
            "1 1: often 0.0",
        ):
            self.assertIs(refusal(read_wishes, text), NoText, text)

    def test_strange_signs(self):
        for sign in STRANGE:
            for text in (f"{sign} 1:", f"1 {sign}:", f"1{sign}1:", f"1 1:{sign}often 0", f"1 1: often{sign}0",
                         f"1 1: often {sign}", f"1 1: oft{sign}n 0", f"1 1: often 0{sign}", f"1 1:{sign}", sign):
                self.assertIs(refusal(read_wishes, text), NoText, text)

    def test_no_text_at_all(self):
        for wrong in NO_TEXTS + (b"1 1:", (1, 1, [])):
            self.assertIs(refusal(read_wishes, wrong), NoText, wrong)

    def test_no_wish(self):
        for text in (
            "1 1: often", "1 1: often 0 0", "1 1: often 1", "1 1: always 0", "1 1: a", "1 1: whenever 0", "1 1: answer 1 0",
            "1 1: answer 0 1", "1 1: within 0 0 7", "1 1: within 0 0", "1 1: often 999999999", "2 1: hope 2",
            "1 1: often 0; calm 0; hope 1",
        ):
            self.assertIs(refusal(read_wishes, text), NoWish, text)

    def test_six_and_more(self):
        six = "1 1:" + "; often 0" * 6
        six = six.replace(":;", ":")
        self.assertEqual(read_wishes(six), (1, 1, [("often", 0)] * 6))
        self.assertIs(refusal(read_wishes, six + "; often 0"), TooMany)
        self.assertIs(refusal(read_wishes, six + "; always 7"), TooMany)
        self.assertIs(refusal(read_wishes, six.replace("often 0", "often", 1) + "; often 0"), TooMany)
        self.assertIs(refusal(read_wishes, six + "; often 0;"), NoText)
        self.assertIs(refusal(read_wishes, six + "; often 0" * 394), TooMany)
        self.assertIs(refusal(read_wishes, six.replace("often 0", "often", 1)), NoWish)

    def test_the_number_of_states_is_not_looked_at(self):
        wishes = [("within", 0, 0, 6)] * 6
        self.assertEqual(read_wishes(shown_wishes(3, 3, wishes)), (3, 3, wishes))


if __name__ == "__main__":
    unittest.main()
