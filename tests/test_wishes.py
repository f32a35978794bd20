"""Points 35 to 37: wishes, what is none, and the states that watch them."""

import itertools
import random
import unittest

from rankgarth.errors import NoWish
from rankgarth.wishes import Wish, wish_of
from tests.samples import all_wishes, refusal

FAR = 10 ** 59

# Each with the numbers that it asks for: a an ask, d a deed, n a number of ticks.
WORDS = {
    "answer": "ad", "often": "d", "within": "adn", "never": "dd", "not": "ad", "only": "ad", "hope": "a", "calm": "a",
}


def raised(ticks, ask):
    """The ticks at which the ask is raised."""
    return [number for number, (asks, deeds) in enumerate(ticks) if asks // 2 ** ask % 2]


def done(ticks, deed):
    return [number for number, (asks, deeds) in enumerate(ticks) if deeds // 2 ** deed % 2]


def broken_at(row, ticks):
    """Whether the last tick breaks the wish, by the words of point 35."""
    word = row[0]
    last = len(ticks) - 1
    if word == "within":
        ask, deed, more = row[1:]
        # d is not done at the tick of an ask nor at one of the next n, the last of which is now.
        return any(when + more == last and not set(done(ticks, deed)) & set(range(when, last + 1))
                   for when in raised(ticks, ask))
    if word == "never":
        return last in done(ticks, row[1]) and last in done(ticks, row[2])
    if word == "not":
        return last in raised(ticks, row[1]) and last in done(ticks, row[2])
    if word == "only":
        if last not in done(ticks, row[2]):
            return False
        ahead = [when for when in done(ticks, row[2]) if when < last]
        return not [when for when in raised(ticks, row[1]) if not ahead or when > ahead[-1]]
    return False


def state_behind(row, ticks):
    """The state behind ticks that broke nothing, by the words of point 37."""
    word = row[0]
    last = len(ticks) - 1
    if word in ("answer", "only"):
        return int(any(not [then for then in done(ticks, row[2]) if then >= when] for when in raised(ticks, row[1])))
    if word == "within":
        ask, deed, more = row[1:]
        due = [when for when in raised(ticks, ask) if not [then for then in done(ticks, deed) if then >= when]]
        return min([when + more - last for when in due], default=0)
    if word == "often":
        return int(last >= 0 and last in done(ticks, row[1]))
    if word == "hope":
        return int(last >= 0 and last in raised(ticks, row[1]))
    if word == "calm":
        return int(last >= 0 and last not in raised(ticks, row[1]))
    return 0


def states_by_the_words(row):
    return {"within": row[-1] + 1, "never": 1, "not": 1}.get(row[0], 2)


def steps(row, asks=1, deeds=1):
    """For each state what comes of no ask and no deed, of the ask alone, of the deed alone, and of both."""
    wish = wish_of(row, asks, deeds)
    ask = 1 << row[1]
    deed = 1 << row[2] if len(row) > 2 else 1
    return [[wish.after(state, *tick) for tick in ((0, 0), (ask, 0), (0, deed), (ask, deed))]
            for state in range(wish.many())]


class StepsTest(unittest.TestCase):
    def test_answer(self):
        self.assertEqual(steps(("answer", 0, 0)), [[0, 1, 0, 0], [1, 1, 0, 0]])

    def test_only(self):
        self.assertEqual(steps(("only", 0, 0)), [[0, 1, None, 0], [1, 1, 0, 0]])

    def test_only_by_a_tick_at_which_both_come_together(self):
        wish = wish_of(("only", 0, 0), 1, 1)
        self.assertEqual(wish.after(0, 1, 1), 0)
        # The ask of that tick is used up by its deed.
        self.assertIsNone(wish.after(wish.after(0, 1, 1), 0, 1))
        self.assertIsNone(wish.after(wish.after(1, 1, 1), 0, 1))
        self.assertEqual(wish.after(wish.after(1, 1, 0), 0, 1), 0)

    def test_within(self):
        self.assertEqual(steps(("within", 0, 0, 0)), [[0, None, 0, 0]])
        self.assertEqual(steps(("within", 0, 0, 1)), [[0, 1, 0, 0], [None, None, 0, 0]])
        self.assertEqual(steps(("within", 0, 0, 2)), [[0, 2, 0, 0], [None, None, 0, 0], [1, 1, 0, 0]])
        self.assertEqual(steps(("within", 0, 0, 6)), [
            [0, 6, 0, 0], [None, None, 0, 0], [1, 1, 0, 0], [2, 2, 0, 0], [3, 3, 0, 0], [4, 4, 0, 0], [5, 5, 0, 0],
        ])

    def test_within_for_each_n(self):
        for more in range(7):
            wish = wish_of(("within", 1, 2, more), 2, 3)
            for last in range(more + 1):
                # Asked at the first tick, done in the last of this many more.
                state = 0
                for number in range(last):
                    state = wish.after(state, 2 if number == 0 else 0, 3)
                    self.assertEqual(state, more - number)
                self.assertEqual(wish.after(state, 2 if last == 0 else 0, 4), 0)
            state = 0
            for number in range(more):
                # Another ask at each tick doesn't put it off.
                state = wish.after(state, 2, 0)
                self.assertEqual(state, more - number)
            self.assertIsNone(wish.after(state, 2, 0))

    def test_never(self):
        wish = wish_of(("never", 0, 2), 1, 3)
        for deeds in range(8):
            for asks in (0, 1):
                self.assertEqual(wish.after(0, asks, deeds), None if deeds in (5, 7) else 0)

    def test_never_with_one_deed_twice(self):
        wish = wish_of(("never", 1, 1), 1, 2)
        self.assertEqual([wish.after(0, 1, deeds) for deeds in range(4)], [0, 0, None, None])

    def test_not(self):
        self.assertEqual(steps(("not", 0, 0)), [[0, 0, 0, None]])

    def test_often(self):
        wish = wish_of(("often", 1), 1, 2)
        for state in (0, 1):
            for asks in (0, 1):
                self.assertEqual([wish.after(state, asks, deeds) for deeds in range(4)], [0, 0, 1, 1])

    def test_hope(self):
        wish = wish_of(("hope", 1), 2, 1)
        for state in (0, 1):
            for deeds in (0, 1):
                self.assertEqual([wish.after(state, asks, deeds) for asks in range(4)], [0, 0, 1, 1])

    def test_calm(self):
        wish = wish_of(("calm", 1), 2, 1)
        for state in (0, 1):
            for deeds in (0, 1):
                self.assertEqual([wish.after(state, asks, deeds) for asks in range(4)], [1, 1, 0, 0])

    def test_other_asks_and_deeds_change_nothing(self):
        for word in ("answer", "only", "not", "within"):
            more = (3,) if word == "within" else ()
            plain = steps((word, 0, 0) + more)
            for ask, deed in itertools.product(range(3), repeat=2):
                self.assertEqual(steps((word, ask, deed) + more, 3, 3), plain)
                wish = wish_of((word, ask, deed) + more, 3, 3)
                for state, asks, deeds in itertools.product(range(wish.many()), range(8), range(8)):
                    number = (asks >> ask & 1) + 2 * (deeds >> deed & 1)
                    self.assertEqual(wish.after(state, asks, deeds), plain[state][number])


class StatesTest(unittest.TestCase):
    def test_word(self):
        for row in all_wishes(3, 3):
            wish = wish_of(row, 3, 3)
            self.assertIsInstance(wish, Wish)
            self.assertEqual(wish.word, row[0])

    def test_many(self):
        for row in all_wishes(3, 3):
            self.assertEqual(wish_of(row, 3, 3).many(), states_by_the_words(row), row)

    def test_each_step_leads_to_a_state_or_breaks(self):
        for row in all_wishes(2, 2):
            wish = wish_of(row, 2, 2)
            for state, asks, deeds in itertools.product(range(wish.many()), range(4), range(4)):
                after = wish.after(state, asks, deeds)
                if after is None:
                    self.assertIn(row[0], ("within", "never", "not", "only"))
                else:
                    self.assertIs(type(after), int)
                    self.assertIn(after, range(wish.many()))

    def test_met(self):
        for row in all_wishes(3, 3):
            wish = wish_of(row, 3, 3)
            for state in range(wish.many()):
                expected = {"answer": state == 0, "often": state == 1, "hope": state == 1, "calm": state == 1}
                self.assertIs(wish.met(state), expected.get(row[0], True), (row, state))

    def test_by_the_words(self):
        source = random.Random(37)
        broken = {"within": 0, "only": 0, "never": 0, "not": 0}
        for number in range(25):
            asks = source.randint(1, 3)
            deeds = source.randint(1, 3)
            for row in all_wishes(asks, deeds):
                wish = wish_of(row, asks, deeds)
                ticks = []
                state = 0
                self.assertEqual(state, state_behind(row, ticks))
                rare = source.choice((1, 1, 2, 5))
                for step in range(12):
                    ticks.append((source.randrange(1 << asks), source.randrange(1 << deeds)))
                    if source.randrange(rare):
                        ticks[-1] = (ticks[-1][0], 0)
                    state = wish.after(state, *ticks[-1])
                    self.assertEqual(state is None, broken_at(row, ticks), (row, ticks))
                    if state is None:
                        broken[row[0]] += 1
                        break
                    self.assertEqual(state, state_behind(row, ticks), (row, ticks))
        self.assertGreater(min(broken.values()), 50)

    def test_two_alike_are_two(self):
        one = wish_of(("answer", 0, 0), 1, 1)
        other = wish_of(("answer", 0, 0), 1, 1)
        self.assertEqual((one.after(0, 1, 0), other.after(0, 0, 0), one.after(0, 0, 0)), (1, 0, 0))


class NoWishTest(unittest.TestCase):
    def refused(self, row, asks=3, deeds=3):
        self.assertIs(refusal(wish_of, row, asks, deeds), NoWish, row)

    def right(self, word):
        return (word,) + tuple(0 for kind in WORDS[word])

    def test_all_that_are_wishes(self):
        for asks, deeds in itertools.product((1, 2, 3), repeat=2):
            for row in all_wishes(asks, deeds):
                self.assertIsNone(refusal(wish_of, row, asks, deeds))

    def test_another_word(self):
        for word in ("", "Answer", "answers", "always", "never ", "with", "hopes", "until", "ticks", "ask", "deed", "a"):
            for numbers in ((), (0,), (0, 0), (0, 0, 0)):
                self.refused((word,) + numbers)

    def test_what_is_no_word_at_all(self):
        for row in ((), (0,), (0, 0), (None, 0, 0), (("often",), 0), (["often"], 0)):
            self.refused(row)

    def test_what_is_no_tuple(self):
        for row in (["often", 0], "often", "hope", {"often": 0}, None, 0):
            self.refused(row)

    def test_too_few_and_too_many_numbers(self):
        for word in WORDS:
            row = self.right(word)
            self.assertIsNone(refusal(wish_of, row, 3, 3))
            for length in range(1, 7):
                if length != len(row):
                    self.refused((row + (0,) * 7)[:length])

    def test_each_number_by_its_bounds(self):
        for asks, deeds in itertools.product((1, 2, 3), repeat=2):
            bounds = {"a": asks, "d": deeds, "n": 7}
            for word, kinds in WORDS.items():
                for spot, kind in enumerate(kinds):
                    row = list(self.right(word))
                    for number in range(bounds[kind]):
                        row[spot + 1] = number
                        self.assertIsNone(refusal(wish_of, tuple(row), asks, deeds), row)
                    for number in (bounds[kind], bounds[kind] + 1, 99, FAR, -1, -2, -bounds[kind], -FAR):
                        row[spot + 1] = number
                        self.refused(tuple(row), asks, deeds)

    def test_truths_and_other_things_are_no_numbers(self):
        for word, kinds in WORDS.items():
            for spot in range(len(kinds)):
                for wrong in (True, False, None, "0", (0,), [0]):
                    row = list(self.right(word))
                    row[spot + 1] = wrong
                    self.refused(tuple(row))


if __name__ == "__main__":
    unittest.main()
