"""Points 36 and 38: wishes kept by a machine, or broken by a breaker."""

import itertools
import random
import unittest

from rankgarth.errors import NoWish, TooMany
from rankgarth.machines import machine_of, told
from rankgarth.serve import solve_wishes
from tests.samples import all_wishes, refusal
from tests.ticks import Endless, broken_row, check_told, is_kept, served_row, size_by_the_words

FAR = 10 ** 59
ANSWER = ("answer", 0, 0)
OFTEN = ("often", 0)
NOT = ("not", 0, 0)
ONLY = ("only", 0, 0)
HOPE = ("hope", 0)
CALM = ("calm", 0)
EXCLUSIVE = [("never", 0, 1), ("never", 1, 2), ("never", 2, 0)]

KEPT = [
    (1, 1, []),
    (3, 3, []),
    (1, 1, [OFTEN]),
    (1, 1, [ANSWER]),
    (1, 1, [HOPE, CALM]),
    (1, 1, [ANSWER, NOT, CALM]),
    (1, 1, [OFTEN, NOT, CALM]),
    (1, 1, [OFTEN, ONLY, HOPE]),
    (1, 1, [ONLY, ("within", 0, 0, 0)]),
    (1, 1, [("never", 0, 0)]),
    (1, 1, [NOT, ONLY]),
    (2, 1, [ONLY, ("answer", 1, 0), HOPE]),
    (1, 2, [("within", 0, 0, 1), ("within", 0, 1, 1), ("never", 0, 1)]),
    (1, 3, [("within", 0, deed, 2) for deed in range(3)] + EXCLUSIVE),
    (2, 2, [OFTEN, ("often", 1), ("never", 0, 1)]),
    (1, 3, [OFTEN, ("often", 1), ("often", 2)] + EXCLUSIVE),
    (3, 1, [("answer", 0, 0), ("not", 1, 0), ("calm", 1)]),
]

BROKEN = [
    (1, 1, [ANSWER, NOT]),
    (1, 1, [OFTEN, NOT]),
    (1, 1, [OFTEN, NOT, HOPE]),
    (1, 1, [OFTEN, ONLY]),
    (1, 1, [OFTEN, ONLY, CALM]),
    (1, 1, [OFTEN, ("never", 0, 0)]),
    (1, 1, [("within", 0, 0, 0), NOT]),
    (1, 1, [("within", 0, 0, 6), NOT]),
    (1, 1, [("within", 0, 0, 3), NOT, CALM]),
    (1, 1, [("within", 0, 0, 3), ("never", 0, 0), HOPE, CALM]),
    (2, 1, [ONLY, ("answer", 1, 0)]),
    (2, 1, [ONLY, ("within", 1, 0, 2), HOPE]),
    (1, 3, [("within", 0, deed, 1) for deed in range(3)] + EXCLUSIVE),
    (2, 2, [("within", 0, 0, 0), ("within", 1, 1, 0), ("never", 0, 1)]),
    (3, 1, [("answer", 0, 0), ("not", 1, 0), ("calm", 2)]),
]

# The number of point 38 is never just 160: 151 is the greatest below it, 161 the least above.
GREATEST = [
    (1, 1, [("within", 0, 0, 4), ("within", 0, 0, 4), ONLY]),
    (1, 2, [("within", 0, 0, 4), ("within", 0, 1, 4), ("only", 0, 1), ("never", 0, 1)]),
    (2, 2, [("within", 0, 0, 4), ("within", 1, 1, 2), ("only", 1, 0)]),
    (2, 3, [("within", 1, 2, 4), ("within", 0, 0, 2), ANSWER, ("never", 0, 2), ("not", 1, 1)]),
    (1, 1, [("within", 0, 0, 4), ("within", 0, 0, 4), OFTEN]),
]

LARGE = [
    (3, 3, [("only", 0, 0), ("only", 1, 1), ("only", 2, 2), ANSWER]),
    (3, 2, [("within", 2, 1, 3), ("within", 0, 0, 3), ("never", 0, 1)]),
    (1, 1, [("within", 0, 0, 5), ANSWER, OFTEN]),
    (1, 1, [("within", 0, 0, 5), ANSWER, OFTEN, NOT]),
    (1, 3, [OFTEN, ("often", 1), ("often", 2), ("within", 0, 0, 1)] + EXCLUSIVE[:2]),
    (1, 1, [HOPE, CALM, HOPE, ONLY, NOT]),
    (1, 1, [HOPE, OFTEN, ("within", 0, 0, 5), ONLY]),
    (2, 2, [("within", 0, 0, 6), ("within", 1, 1, 3), ("never", 0, 1), ("never", 0, 0)]),
]

TOO_MANY = [
    (2, 1, [ONLY] * 5),
    (2, 2, [("within", 0, 0, 3), ("within", 0, 1, 3), ("within", 1, 1, 1)]),
    (1, 1, [("within", 0, 0, 5), ("within", 0, 0, 2), ("within", 0, 0, 2)]),
    (3, 1, [("within", 0, 0, 5), ("within", 0, 0, 2)]),
    (1, 1, [ANSWER, OFTEN, HOPE, CALM]),
    (3, 3, [("within", 0, 0, 6)] * 6),
    (3, 3, [ANSWER] * 6),
    (3, 3, [("within", 2, 2, 6)] * 400),
]


def random_cases(many, seed):
    """Wishes of which the number of point 38 is at most 160, each word as likely as another."""
    source = random.Random(seed)
    cases = []
    while len(cases) < many:
        asks = source.randint(1, 3)
        deeds = source.randint(1, 3)
        by_word = {}
        for wish in all_wishes(asks, deeds):
            by_word.setdefault(wish[0], []).append(wish)
        words = [source.choice(list(by_word)) for wish in range(source.randint(1, 6))]
        wishes = [source.choice(by_word[word]) for word in words]
        if size_by_the_words(asks, wishes) <= 160:
            cases.append((asks, deeds, wishes))
    return cases


def small_cases():
    """Each wish of one ask and one deed alone, and each two of them."""
    each = [wish for wish in all_wishes(1, 1) if wish[0] != "within" or wish[3] in (0, 1, 2)]
    return [(1, 1, list(wishes)) for many in (1, 2) for wishes in itertools.product(each, repeat=many)]


def random_numbers(source, bits, least, most):
    return [source.randrange(2 ** bits) for number in range(source.randint(least, most))]


class RowsOfTicksTest(unittest.TestCase):
    """Point 36, on rows whose answer is plain: these tests lean on it."""

    def test_is_kept(self):
        idle = Endless([], [(0, 0)])
        asked = Endless([(0, 0)], [(1, 0)])
        served = Endless([(1, 0)], [(0, 1), (1, 0)])
        once = Endless([(1, 1)], [(0, 0)])
        for wishes, kept in (
            ([ANSWER], [True, False, True, True]),
            ([OFTEN], [False, False, True, False]),
            ([OFTEN, HOPE], [True, False, True, True]),
            ([OFTEN, CALM], [False, True, True, False]),
            ([("within", 0, 0, 0)], [True, False, False, True]),
            ([("within", 0, 0, 1)], [True, False, True, True]),
            ([("never", 0, 0)], [True, True, False, False]),
            ([("never", 0, 0), HOPE], [True, True, False, False]),
            ([NOT], [True, True, True, False]),
            ([ONLY], [True, True, True, True]),
            ([("only", 1, 0)], [True, True, False, False]),
        ):
            self.assertEqual([is_kept(wishes, row) for row in (idle, asked, served, once)], kept, wishes)

    def test_only_looks_behind_the_last_deed(self):
        self.assertFalse(is_kept([ONLY], Endless([(1, 0), (0, 1)], [(0, 1)])))
        self.assertFalse(is_kept([ONLY], Endless([(1, 1)], [(0, 1), (1, 1)])))
        self.assertTrue(is_kept([ONLY], Endless([(0, 0)], [(1, 0), (0, 1)])))


class ToldTest(unittest.TestCase):
    def test_kept(self):
        for asks, deeds, wishes in KEPT:
            self.assertEqual(check_told(self, asks, deeds, wishes), "kept", wishes)

    def test_broken(self):
        for asks, deeds, wishes in BROKEN:
            self.assertEqual(check_told(self, asks, deeds, wishes), "broken", wishes)

    def test_the_order_of_the_wishes_changes_nothing(self):
        for word, cases in (("kept", KEPT), ("broken", BROKEN)):
            for asks, deeds, wishes in cases:
                self.assertEqual(check_told(self, asks, deeds, wishes[::-1]), word, wishes)

    def test_wishes_alike(self):
        self.assertEqual(check_told(self, 1, 1, [ANSWER, ANSWER, NOT]), "broken")
        self.assertEqual(check_told(self, 1, 1, [OFTEN, NOT, OFTEN, NOT, CALM]), "kept")
        self.assertEqual(check_told(self, 1, 1, [ONLY] * 5), "kept")
        self.assertEqual(check_told(self, 1, 1, [("never", 0, 0)] * 6), "kept")

    def test_small_wishes(self):
        words = [check_told(self, *case) for case in small_cases()]
        self.assertGreater(words.count("broken"), 10)
        self.assertGreater(words.count("kept"), 50)

    def test_random_wishes(self):
        words = [check_told(self, *case) for case in random_cases(400, 38)]
        self.assertGreater(words.count("broken"), 60)
        self.assertGreater(words.count("kept"), 60)

    def test_by_rows_of_ticks(self):
        source = random.Random(36)
        for asks, deeds, wishes in KEPT + BROKEN + random_cases(150, 39):
            word, made = solve_wishes(asks, deeds, wishes)
            bits = asks if word == "kept" else deeds
            run = served_row if word == "kept" else broken_row
            for number in range(8):
                row = run(made, random_numbers(source, bits, 0, 4), random_numbers(source, bits, 1, 4))
                self.assertEqual(is_kept(wishes, row), word == "kept", wishes)

    def test_no_wishes(self):
        for asks, deeds in itertools.product((1, 2, 3), repeat=2):
            self.assertEqual(check_told(self, asks, deeds, []), "kept")

    def test_behind_a_broken_wish_asks_are_raised(self):
        breaker = solve_wishes(1, 1, [("within", 0, 0, 0), NOT])[1]
        for path in itertools.product((0, 1), repeat=6):
            state = breaker[0]
            for deeds in path:
                self.assertIn(breaker[1][state][0], (0, 1))
                state = breaker[1][state][1][deeds]
            self.assertIn(state, range(len(breaker[1])))


class KindsTest(unittest.TestCase):
    def test_the_machine(self):
        for asks, deeds, wishes in KEPT:
            machine = solve_wishes(asks, deeds, wishes)[1]
            self.assertIs(type(machine), tuple)
            self.assertEqual(machine_of(*machine), machine)
            answers = told(machine, list(range(2 ** asks)) * 3)
            for answer in answers:
                self.assertIs(type(answer), int)
                self.assertIn(answer, range(2 ** deeds))

    def test_the_breaker(self):
        for asks, deeds, wishes in BROKEN:
            start, rows = solve_wishes(asks, deeds, wishes)[1]
            self.assertIs(type(start), int)
            self.assertIs(type(rows), list)
            for row in rows:
                self.assertIs(type(row), tuple)
                self.assertIs(type(row[1]), list)
                self.assertEqual(len(row), 2)
                self.assertEqual({type(state) for state in row[1]}, {int})


class SizeTest(unittest.TestCase):
    def test_the_greatest_are_not_refused(self):
        for asks, deeds, wishes in GREATEST:
            self.assertEqual(size_by_the_words(asks, wishes), 151)
            check_told(self, asks, deeds, wishes)

    def test_large_ones(self):
        for asks, deeds, wishes in LARGE:
            self.assertIn(size_by_the_words(asks, wishes), range(100, 161), wishes)
            check_told(self, asks, deeds, wishes)

    def test_what_lies_beyond_but_is_not_refused(self):
        for asks, deeds, wishes in (
            (4, 1, [("within", 3, 0, 2), ("within", 0, 0, 2)]), (4, 4, [("answer", 3, 3)]), (7, 1, []),
            (1, 5, [("often", 4), ("never", 4, 3)]), (1, 1, [("never", 0, 0)] * 9), (1, 1, [NOT] * 7 + [CALM, OFTEN]),
        ):
            self.assertLessEqual(size_by_the_words(asks, wishes), 160)
            self.assertEqual(check_told(self, asks, deeds, wishes), "kept")

    def test_too_many(self):
        self.assertEqual([size_by_the_words(asks, wishes) for asks, deeds, wishes in TOO_MANY[:4]], [161, 161, 163, 163])
        for asks, deeds, wishes in TOO_MANY:
            self.assertGreater(size_by_the_words(asks, wishes), 160)
            self.assertIs(refusal(solve_wishes, asks, deeds, wishes), TooMany, wishes)

    def test_each_size_is_refused_or_not_by_its_number(self):
        for asks, wishes in itertools.product((1, 2, 3), itertools.combinations_with_replacement(
                [ANSWER, HOPE, ONLY, ("within", 0, 0, 2), ("within", 0, 0, 4)], 3)):
            size = size_by_the_words(asks, wishes)
            expected = TooMany if size > 160 else None
            self.assertIs(refusal(solve_wishes, asks, 1, list(wishes)), expected, (asks, wishes, size))


class RefusedTest(unittest.TestCase):
    WRONG = [("always", 0), ("often",), ("often", 0, 0), ("often", 2), ("often", -1), ("answer", 2, 0), ("hope", FAR),
             ("within", 0, 0, 7), ("within", 0, 0, -1), ("within", 0, 0), (), ("calm", -FAR), ("never", 0),
             ("not", 0, 2), ("only", -1, 0), ("Often", 0), ("", 0)]

    def test_no_wish(self):
        for wrong in self.WRONG:
            for wishes in ([wrong], [OFTEN, wrong], [wrong, OFTEN], [ONLY, wrong, wrong]):
                self.assertIs(refusal(solve_wishes, 2, 2, wishes), NoWish, wishes)

    def test_no_wish_goes_ahead_of_too_many(self):
        for asks, deeds, wishes in TOO_MANY:
            for wrong in (("always", 0), ("often", deeds), ("within", 0, 0, 7)):
                self.assertIs(refusal(solve_wishes, asks, deeds, wishes + [wrong]), NoWish)
                self.assertIs(refusal(solve_wishes, asks, deeds, [wrong] + wishes), NoWish)


if __name__ == "__main__":
    unittest.main()
