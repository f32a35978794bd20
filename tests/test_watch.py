"""Points 35 and 37: wishes watched together, tick by tick."""

import itertools
import random
import unittest

from rankgarth.errors import NoAsk, NoWish
from rankgarth.watch import Watch
from rankgarth.wishes import wish_of
from tests.samples import all_wishes, refusal

FAR = 10 ** 59

EACH = [
    ("answer", 0, 0), ("often", 1), ("within", 1, 1, 2), ("never", 0, 1),
    ("not", 1, 0), ("only", 0, 0), ("hope", 1), ("calm", 0),
]
MARKED = ("answer", "often", "hope", "calm")


class TickTest(unittest.TestCase):
    def test_no_wishes(self):
        watch = Watch(2, 1, [])
        self.assertEqual(watch.met(), [])
        for asks, deeds in itertools.product(range(4), range(2)):
            self.assertIs(watch.tick(asks, deeds), True)
            self.assertEqual(watch.met(), [])

    def test_false_as_soon_as_a_wish_was_broken_and_ever_behind_it(self):
        watch = Watch(1, 2, [("answer", 0, 0), ("never", 0, 1)])
        self.assertIs(watch.tick(1, 0), True)
        self.assertIs(watch.tick(0, 3), False)
        for tick in ((0, 0), (1, 1), (0, 1), (1, 3)) * 5:
            self.assertIs(watch.tick(*tick), False)

    def test_each_word_that_breaks(self):
        for row, ticks in (
            (("within", 0, 0, 0), [(1, 0)]),
            (("within", 0, 0, 1), [(1, 0), (0, 0)]),
            (("within", 0, 0, 1), [(1, 0), (1, 0)]),
            (("within", 0, 0, 2), [(0, 0), (1, 1), (1, 0), (0, 0), (1, 0)]),
            (("within", 0, 0, 6), [(1, 0)] * 7),
            (("never", 0, 0), [(1, 0), (0, 1)]),
            (("never", 0, 1), [(0, 1), (0, 2), (1, 3)]),
            (("not", 0, 0), [(0, 1), (1, 0), (1, 1)]),
            (("only", 0, 0), [(0, 1)]),
            (("only", 0, 0), [(1, 0), (0, 1), (0, 0), (0, 1)]),
            (("only", 0, 0), [(1, 1), (0, 1)]),
        ):
            watch = Watch(1, 2, [row])
            told = [watch.tick(*tick) for tick in ticks]
            self.assertEqual(told, [True] * (len(ticks) - 1) + [False], row)

    def test_words_that_never_break(self):
        watch = Watch(1, 1, [("answer", 0, 0), ("often", 0), ("hope", 0), ("calm", 0)])
        for tick in [(1, 0)] * 20 + [(0, 0)] * 20 + [(0, 1)] * 20 + [(1, 1)] * 20:
            self.assertIs(watch.tick(*tick), True)

    def test_wishes_alike(self):
        watch = Watch(1, 1, [("often", 0), ("within", 0, 0, 1), ("often", 0), ("within", 0, 0, 1), ("answer", 0, 0)] * 2)
        self.assertEqual(watch.met(), [4, 9])
        self.assertTrue(watch.tick(1, 1))
        self.assertEqual(watch.met(), [0, 2, 4, 5, 7, 9])
        self.assertTrue(watch.tick(1, 0))
        self.assertEqual(watch.met(), [])
        self.assertFalse(watch.tick(0, 0))

    def test_two_watches_of_the_same_wishes(self):
        wishes = [("only", 0, 0)]
        one = Watch(1, 1, wishes)
        other = Watch(1, 1, wishes)
        self.assertTrue(one.tick(1, 0))
        self.assertFalse(other.tick(0, 1))
        self.assertTrue(one.tick(0, 1))

    def test_each_wish_by_itself(self):
        source = random.Random(36)
        broken = 0
        for number in range(300):
            asks = source.randint(1, 3)
            deeds = source.randint(1, 3)
            wishes = source.sample(all_wishes(asks, deeds), source.randint(0, 6))
            watch = Watch(asks, deeds, wishes)
            made = [wish_of(row, asks, deeds) for row in wishes]
            states = [0] * len(made)
            for step in range(15):
                expected = [] if None in states else [
                    place for place, wish in enumerate(made) if wish.word in MARKED and wish.met(states[place])
                ]
                self.assertEqual(watch.met(), expected)
                tick = (source.randrange(1 << asks), source.randrange(1 << deeds) & source.randrange(1 << deeds))
                if None not in states:
                    states = [wish.after(state, *tick) for wish, state in zip(made, states)]
                self.assertIs(watch.tick(*tick), None not in states)
            broken += None in states
        self.assertIn(broken, range(60, 290))


class MetTest(unittest.TestCase):
    def test_at_first(self):
        self.assertEqual(Watch(2, 2, EACH).met(), [0])
        self.assertEqual(Watch(2, 2, EACH[::-1]).met(), [7])

    def test_tick_by_tick(self):
        watch = Watch(2, 2, EACH)
        found = []
        for tick in ((1, 0), (2, 2), (2, 0), (0, 2), (1, 1), (0, 0)):
            self.assertIs(watch.tick(*tick), True)
            found.append(watch.met())
        self.assertEqual(found, [[], [1, 6, 7], [6, 7], [1, 7], [0], [0, 7]])

    def test_only_the_marked_words(self):
        watch = Watch(1, 1, [("within", 0, 0, 2), ("never", 0, 0), ("not", 0, 0), ("only", 0, 0)])
        self.assertEqual(watch.met(), [])
        self.assertTrue(watch.tick(1, 0))
        self.assertEqual(watch.met(), [])

    def test_asked_twice_it_is_the_same(self):
        watch = Watch(1, 1, [("often", 0), ("answer", 0, 0)])
        watch.tick(1, 1)
        self.assertEqual(watch.met(), [0, 1])
        watch.met().append(7)
        self.assertEqual(watch.met(), [0, 1])

    def test_nothing_behind_a_broken_wish(self):
        watch = Watch(1, 1, [("answer", 0, 0), ("not", 0, 0), ("calm", 0), ("often", 0)])
        watch.tick(0, 1)
        self.assertEqual(watch.met(), [0, 2, 3])
        self.assertIs(watch.tick(1, 1), False)
        self.assertEqual(watch.met(), [])
        for tick in ((0, 1), (0, 0), (1, 0)):
            watch.tick(*tick)
            self.assertEqual(watch.met(), [])


class RefusedTest(unittest.TestCase):
    def test_no_wish(self):
        for wrong in (("always", 0), ("often",), ("often", 0, 0), ("often", 2), ("often", -1), ("answer", 2, 0),
                      ("within", 0, 0, 7), ("within", 0, 0, -1), ("hope", FAR), ()):
            for wishes in ([wrong], [("often", 0), wrong], [wrong, ("often", 0)], EACH[:2] + [wrong, wrong]):
                self.assertIs(refusal(Watch, 2, 2, wishes), NoWish, wishes)

    def test_the_first_one_is_refused(self):
        with self.assertRaises(NoWish) as first:
            wish_of(("always", 0), 1, 1)
        with self.assertRaises(NoWish) as caught:
            Watch(1, 1, [("often", 0), ("always", 0), ("often", 0, 0), ("often", 1)])
        self.assertEqual(str(caught.exception), str(first.exception))

    def test_no_asks_and_no_deeds(self):
        for asks, deeds in itertools.product((1, 2, 3), repeat=2):
            watch = Watch(asks, deeds, [("answer", 0, 0), ("often", 0)])
            self.assertTrue(watch.tick(2 ** asks - 1, 2 ** deeds - 1))
            for wrong in (2 ** asks, 2 ** asks + 1, 99, FAR, -1, -2, -FAR, True):
                self.assertIs(refusal(watch.tick, wrong, 0), NoAsk, wrong)
            for wrong in (2 ** deeds, 2 ** deeds + 1, 99, FAR, -1, -2, -FAR, False):
                self.assertIs(refusal(watch.tick, 1, wrong), NoAsk, wrong)
                self.assertIs(refusal(watch.tick, wrong - 99, wrong), NoAsk, wrong)
            self.assertEqual(watch.met(), [0, 1])

    def test_refused_it_changes_nothing(self):
        watch = Watch(1, 1, [("within", 0, 0, 1), ("often", 0), ("answer", 0, 0)])
        watch.tick(1, 0)
        # A tick that would break the wish, or meet it, if one number were not wrong.
        for asks, deeds in ((0, 2), (2, 0), (2, 1), (-1, 0), (0, -1), (FAR, FAR)):
            self.assertIs(refusal(watch.tick, asks, deeds), NoAsk)
            self.assertEqual(watch.met(), [])
        self.assertIs(watch.tick(0, 1), True)
        self.assertEqual(watch.met(), [1, 2])

    def test_behind_a_broken_wish_too(self):
        watch = Watch(1, 1, [("never", 0, 0), ("answer", 0, 0)])
        self.assertIs(watch.tick(0, 1), False)
        for asks, deeds in ((2, 0), (0, 2), (-1, 0), (0, -1), (True, 0)):
            self.assertIs(refusal(watch.tick, asks, deeds), NoAsk)
        self.assertIs(watch.tick(0, 0), False)
        self.assertEqual(watch.met(), [])


if __name__ == "__main__":
    unittest.main()
