"""Texts of games, of purse games and of wishes, read and shown."""

from rankgarth.errors import NoName, NoText, TooMany
from rankgarth.games import game_of
from rankgarth.purses import purse_game
from rankgarth.wishes import wish_of

# Written out, as Python counts letters and figures of other scripts in, too.
LETTERS = "abcdefghijklmnopqrstuvwxyz"
FIGURES = "0123456789"
# The sign of a hand stands at its number.
HAND_SIGNS = "+-"
MOST_LETTERS = 8
MOST_NUMBER_FIGURES = 9
MOST_AMOUNT_FIGURES = 60
MOST_WISHES = 6
# How many asks and deeds there may be.
COUNTS = ("1", "2", "3")


def is_made_of(word, signs, most):
    return 1 <= len(word) <= most and all([sign in signs for sign in word])


def is_name(word):
    return is_made_of(word, LETTERS, MOST_LETTERS)


def is_figures(word, most):
    return is_made_of(word, FIGURES, most) and (word == "0" or word[0] != "0")


def is_number(word):
    return is_figures(word, MOST_NUMBER_FIGURES)


def is_amount(word):
    if word.startswith("-"):
        return word != "-0" and is_figures(word[1:], MOST_AMOUNT_FIGURES)
    return is_figures(word, MOST_AMOUNT_FIGURES)


def check_form(right):
    if not right:
        raise NoText("the text has not the form that is asked for")


def places_told(text):
    check_form(isinstance(text, str))
    return text.split("; ") if text else []


def read_head(word):
    # The name, the hand, and what stands behind its sign.
    found = [hand for hand, sign in enumerate(HAND_SIGNS) if sign in word]
    check_form(len(found) > 0)
    parts = word.partition(HAND_SIGNS[found[0]])
    check_form(is_name(parts[0]))
    return (parts[0], found[0], parts[2])


def read_place(text):
    words = text.split(" ")
    head = read_head(words[0])
    check_form(is_number(head[2]))
    check_form(all([is_name(word) for word in words[1:]]))
    return (head[0], head[1], int(head[2]), words[1:])


def read_purse_way(word):
    parts = word.partition(":")
    check_form(is_name(parts[0]) and is_amount(parts[2]))
    return (parts[0], int(parts[2]))


def read_purse_place(text):
    words = text.split(" ")
    head = read_head(words[0])
    check_form(head[2] == "")
    return (head[0], head[1], [read_purse_way(word) for word in words[1:]])


def numbered(names):
    numbers = dict([(name, number) for number, name in enumerate(names)])
    if len(numbers) < len(names):
        raise NoName("a name is told for two places")
    return numbers


def number_of(numbers, name):
    if name not in numbers:
        raise NoName("a way leads to a name that no place has")
    return numbers[name]


def read_game(text):
    places = [read_place(part) for part in places_told(text)]
    names = [place[0] for place in places]
    numbers = numbered(names)
    rows = []
    for place in places:
        rows.append((place[1], place[2], [number_of(numbers, name) for name in place[3]]))
    return (names, game_of(rows))


def read_purses(text):
    places = [read_purse_place(part) for part in places_told(text)]
    names = [place[0] for place in places]
    numbers = numbered(names)
    rows = []
    for place in places:
        rows.append((place[1], [(number_of(numbers, name), amount) for name, amount in place[2]]))
    return (names, purse_game(rows))


def shown_game(names, game):
    texts = []
    for name, row in zip(names, game):
        head = name + HAND_SIGNS[row[0]] + str(row[1])
        texts.append(" ".join([head] + [names[way] for way in row[2]]))
    return "; ".join(texts)


def shown_purses(names, game):
    texts = []
    for name, row in zip(names, game):
        head = name + HAND_SIGNS[row[0]]
        texts.append(" ".join([head] + [names[place] + ":" + str(amount) for place, amount in row[1]]))
    return "; ".join(texts)


def read_wish(text):
    # A blank stands ahead, so the first word is one without signs.
    words = text.split(" ")
    check_form(len(words) > 1 and words[0] == "" and is_name(words[1]))
    check_form(all([is_number(word) for word in words[2:]]))
    return tuple([words[1]] + [int(word) for word in words[2:]])


def read_counts(text):
    words = text.split(" ")
    check_form(len(words) == 2 and words[0] in COUNTS and words[1] in COUNTS)
    return (int(words[0]), int(words[1]))


def read_wishes(text):
    check_form(isinstance(text, str))
    parts = text.partition(":")
    check_form(parts[1] == ":")
    counts = read_counts(parts[0])
    wishes = [read_wish(part) for part in parts[2].split(";")] if parts[2] else []
    if len(wishes) > MOST_WISHES:
        raise TooMany(f"a text tells at most {MOST_WISHES} wishes")
    for wish in wishes:
        wish_of(wish, counts[0], counts[1])
    return (counts[0], counts[1], wishes)


def shown_wishes(asks, deeds, wishes):
    texts = [" " + " ".join([str(part) for part in wish]) for wish in wishes]
    return f"{asks} {deeds}:" + ";".join(texts)
